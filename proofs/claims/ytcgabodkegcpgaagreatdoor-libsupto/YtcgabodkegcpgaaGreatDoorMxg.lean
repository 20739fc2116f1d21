/- Walking code by a function that knows memory: functions entered, called, left; what is known grows and shrinks. -/
import Derived.Test.YtcgabodkegcpgaaGreatDoorAaa
import Derived.Test.YtcgabodkegcpgaaGreatDoorKer
import Derived.Test.YtcgabodkegcpgaaGreatDoorEnp
import Derived.Deep.QuietTactic
import Derived.BigQuiet
import Derived.Deep.AppendLies
import Derived.Deep.RegionLaw
import Derived.Deep.MidRow
import Derived.Conc.QuitsD
import Derived.Conc.Own2
set_option linter.unusedVariables false
set_option linter.unusedSimpArgs false
set_option maxHeartbeats 20000000
set_option maxRecDepth 100000
open Option renaming some->J,none->Q,none->G',map_some->aF,isSome_iff_exists->cL,getD_some->cW,map_eq_some_iff->dF
open Go.Proofs.Tryz renaming prog->V,prog->J',func117->cT,func107->dx,func114->eQ,func126->fH,f88->fO,func112->gY,func125->jh,func124->ji,func122->jj,func120->jk,func119->jl,func116->jm,func115->jn,func113->jo,func106->jA,underlying82->jS,func123->lG,func121->lH
open Go renaming World->Wd,Value->Vu,undef->Ud,Frame->Fm',Goroutine->Gr,TypeId->Ti,execOp->Ex,Program->Pg,Calls->aG,Oper->aN,Operand->aU,Item->bm,FuncId->bF,stepG->bH,Addr->cC,heap_alloc_new->cE,Act->db,results->di,Event->dr,Value->dQ,ResultVar->eC,yielded->fA,exitTo->fN,wpList_load_mid->fR,Sem->gG,wpList->gN,maxLen->gO,Act->ig,TypeInfo->iD,Code->jx,events_store->jy,wpList_append_lies->kX,method->kY,Func->mR
open Go.Value renaming int->Y,pointer->Po,slice->Sc,bool->Bo,slice->dm,int->dO,cells->gv,oneCell'->kE
open Go.IntKind renaming i64->U,i64->J'
open Go.Addr renaming mk->O,add_mid->eO
open List renaming mem_cons->ae,mem_cons_of_mem->ah,not_mem_nil->ai,mem_cons_self->ao,range->aM,size_toArray->aR,all_eq_true->aV,getElem?_eq_some_iff->bj,getElem?_eq_getElem->br,length_map->bC,length_cons->bQ,getElem?_map->bZ,mem_singleton->cD,append_nil->cH,getD_eq_getElem?_getD->cK,mem_append_right->cN,mem_of_getElem?->cP,getElem?_range->cY,map_cons->cZ,mem_map->dn,map_toArray->du,mem_filter->dD,eq_nil_of_length_eq_zero->dM,length_nil->dP,nil_append->dS,mem_toArray->dZ,length_eq_zero_iff->eI,map_nil->eK,getElem?_take->eV,mem_range->eX,getElem?_eq_none->fh,mem_append_left->fP,mapM_cons->fT,mapM_toArray->gh,push_toArray->gI,length_drop->hY,getElem?_of_mem->iz,mapM_nil->jc,length_take->jF,length_append->jG,append_assoc->jH,any_eq_true->jI,ext_getElem?->jV,getElem?_append_right->lN,length_filter_le->lT,getElem?_append_left->mQ,filter_append->nt,getElem?_set->nM
open Nat renaming le_refl->af,zero_add->aE,beq->aI,add_assoc->aS,zero_le->bh,lt_or_ge->bU,blt->cJ,zero_lt_one->eP,le_of_eq->fJ,mul_le_mul_right->fQ,ble->ga,not_lt_zero->iE,lt_irrefl->iO,add_mul->lL,lt_of_succ_lt_succ->np,le_of_ble_eq_true->nJ
open Go.RowKit renaming Hid->ar,Below->bG,intOf->bM
open Prod.mk renaming inj->ax,injEq->cU
open Go.Frame renaming enter->ay,finish_at->bK
open Ne renaming symm->aA
open Bool renaming and_eq_true->aC,false_eq_true->aJ,or_eq_true->da
open Go.World renaming cell?->aD,block_lt_of_cell?->aL,frozen?->bY,setCell->cQ,ownsRow_nil->dh,setChan->dC
open Go.RowKit.Below renaming heap_alloc->aK,refl->bD
open Go.Conc renaming base->aB,mem_listed->aZ,served->bI,goes_oper_k->cA,goes_go->dc,ds_none->de,stepG_cond->fU,closeEvents->il,stepG_region->iH,baseD->ja,stepG_region_end->jd,listed->mM
open Go.Conc.Goes renaming step->aO
open Go.Sem renaming runT->aP,run_bind->bJ,run_pure->eH,runT_fst->jr,run_map->jT
open Go.Result renaming andThen_ok->aQ
open Go.Builtin renaming nextslicecap->aT,zeroCells->mI,append_->mT
open Go.Region renaming ready->aW,wanted->bR,binds->cM
open Go.CallKind renaming normal->aX
open Array renaming getD_eq_getD_getElem?->aY,getElem?_eq_getElem->bE,replicate->cx,getElem?_setIfInBounds_ne->cX,getElem?_setIfInBounds->fy,toList_map->gM,toArray_toList->ir
open Or renaming inr->ba,inl->bT
open Option.some renaming injEq->bz
open Go.stepG renaming apply->dj
open Go.Act renaming eval->dp,put->dK
open Go.Instr renaming fill->dN,index->gp,sureAddr->iF,buildSlice->jQ
open Inhabited renaming default->dW
open Go.GStep renaming after->fj
open List.cons renaming injEq->fK
namespace Go.Proofs.YtcgabodkegcpgaaGreatDoor
open Go.Conc Go.RowKit
variable{a b c d:Nat}{e f g:Wd}{h i:Array Vu}{j k l m n:Vu}{o:Fm'}{p:List Nat}{q r:aN}{s:List Int}{t u:jx}{v w:aU}{x y:Ti}{z:mR}{A:Option Nat}{B C:Int}{D:Bool}{E F:aa}{H:List Vu}{I:Mem}{K:Array Bool}{L:Array aU}{N:Array Ti}{P:db}{R:List nY}{S:List eC}{T:List qc}{W:Vu->Wd->Prop}
def py(a:Bool)(b:Nat->Nat)(f:bF)(g:Array Vu)(w:Wd)(h:Vu->Wd->Prop):Prop:=∀Stop c d,(∀x e,h x e->iv V a true b Stop (G (c.finish x) d) e)->iv V a true b Stop (G (ay V f g .normal) (c::d)) w
def uJ(s:Sm):List eC->Option (List qc)
 | []=>J []
 | .tmp t::r=>match tV s.env t with
  | some (.c x)=>match uJ s r with
   | some l=>J (.c x::l)
   | none=>Q
  | some (.g x)=>match uJ s r with
   | some l=>J (.g x::l)
   | none=>Q
  | _=>Q
 | .cell t ty::r=>match tV s.env t with
  | some (.c (.p i o))=>match sX ty tj with
   | some (true,z)=>match Ao s.m i z.length o with
    | some x=>match uJ s r with
     | some l=>J (.g x::l)
     | none=>Q
    | none=>Q
   | _=>Q
  | _=>Q
def uZ:List qc->Sv
 | [.c x]=>.c x
 | [.g x]=>.g x
 | l=>.t l
def Ap(b:Array Vu):eC->gG Vu
 | .tmp t=>pure (b.getD t Ud)
 | .cell a t=>do loadVar t (←asAddr (b.getD a Ud))
def yG(r:eC)(a:Array Vu)(w:Wd)(v:Vu):Prop:=(Ap a r).run V w=.ok v w
theorem Cl(b:mR)(c:Array Vu):di b c=(do let a ←b.results.mapM (Ap c);pure (if h:a.size=1 then a[0] else .tuple a)):=rfl
variable{sft:Nat->Nat}{W:List Nat}{ro:Nat}{w0 w:Wd}{ρ:oN}{sz:Nat}{s:Sm}{a:db}{ops:Array aN}{F:Bool}{Stop:Gr->Wd->Prop}{f:bF}{k:List bm}{B:List Fm'}{m m':Mem}{env env':m7}{N:Nat}
theorem DI(M:fx sft W ro w0 ρ s.m sz s.env a w)(d:Nat):∀ {e:List eC} {l:List qc},uJ s e=J l->l.length=e.length/\∀(j:Nat) (r:eC) (x:qc),e[j]?=J r->l[j]?=J x->yG r a.tmps (w.at d) (x.den ρ)
 | [],l,h=>by cases Ze h;grind
 | .tmp t::e,l,h=>by
  have u:∀v,tV s.env t=J v->a.tmps.getD t Ud=v.den ρ:=λv E=>(M.rd (x:=.tmp t) E).1;unfold uJ at h;split at h
  .next x g =>
   split at h
   .next A n =>
    cases Ze h;let⟨p,q⟩:=DI M d n;refine⟨by simp[p],λj r y b c=>?_⟩
    cases j with
    | zero=>cases Ze b;cases Ze c;unfold yG Ap;simp only[u _ g];rfl
    | succ j=>exact q j r y b c
   .cases h
  .next x g =>
   split at h
   .next A n =>
    cases Ze h;let⟨p,q⟩:=DI M d n;refine⟨by simp[p],λj r y b c=>?_⟩
    cases j with
    | zero=>cases Ze b;cases Ze c;unfold yG Ap;simp only[u _ g];rfl
    | succ j=>exact q j r y b c
   .cases h
  .cases h
 | .cell t ty::e,l,h=>by
  unfold uJ at h;split at h
  .next i o g =>
   have u:a.tmps.getD t Ud=_:=(M.rd (x:=.tmp t) g).1;split at h
   .next z H =>
    split at h
    .next x n =>
     split at h
     .next A I =>
      cases Ze h;let⟨p,q⟩:=DI M d I;refine⟨by simp[p],λj r y b c=>?_⟩
      cases j with
      | zero =>
       cases Ze b;cases Ze c;let⟨P,t2,C⟩:=W9 H;let⟨R,S,K⟩:=GL (M.mem d) n
       cases D:V.underlying ty with
       | none=>grind
       | some L =>
        rw[D]at C;have:=run_loadVar_mid (P:=V) (w.at d) (ox ρ i).1 ((ox ρ i).2+o) ty (x.map (·.den ρ)) L K D (Ze C) (by grind);unfold yG Ap;simp only[u,Sv.den,ou.den,asAddr,bJ,eH,aQ,this];rfl
      | succ j=>exact q j r y b c
     .cases h
    .cases h
   .cases h
  .cases h
theorem c8m{w:Wd}(d:z.results=S.toArray)(i:T.length=S.length)(l:S.length<=4)(b:∀(j:Nat) (r:eC) (x:qc),S[j]?=J r->T[j]?=J x->yG r h w (x.den ρ)):(di z h).run V w=.ok ((uZ T).den ρ) w:=by
 unfold yG at b
 match S,T,i,l with
 | [],[],_,_=>simp[Cl,d,uZ,Sv.den]
 | [r],[x],_,_ =>
  have c:=b 0 r x Z Z;simp only[Cl,d,gh,fT,jc,bJ,eH,aQ,jT,c];cases x<;>simp[uZ,Sv.den,qc.den]
 | [r,r2],[x,x2],_,_ =>
  have c:=b 0 r x Z Z;have e:=b 1 r2 x2 Z Z;simp only[Cl,d,gh,fT,jc,bJ,eH,aQ,jT,c,e];simp[uZ,Sv.den]
 | [r,r2,r3],[x,x2,x3],_,_ =>
  have c:=b 0 r x Z Z;have e:=b 1 r2 x2 Z Z;have g:=b 2 r3 x3 Z Z;simp only[Cl,d,gh,fT,jc,bJ,eH,aQ,jT,c,e,g];simp[uZ,Sv.den]
 | [r,r2,r3,r4],[x,x2,x3,x4],_,_ =>
  have c:=b 0 r x Z Z;have e:=b 1 r2 x2 Z Z;have g:=b 2 r3 x3 Z Z;have n:=b 3 r4 x4 Z Z;simp only[Cl,d,gh,fT,jc,bJ,eH,aQ,jT,c,e,g,n];simp[uZ,Sv.den]
theorem fx.defers(M:fx sft W ro w0 ρ m sz env a w):a.defers=[]:=M.lv.defers
theorem Kn(M:fx sft W ro w0 ρ m sz env a w)(b:z.results=S.toArray)(c:ga S.length 4=true)(h:uJ ⟨m,env,N,[],True⟩ S=J T)(d:Nat):(di z a.tmps).run V (w.at d)=.ok ((uZ T).den ρ) (w.at d):=by
 let⟨e,g⟩:=DI (s:=⟨m,env,N,[],True⟩) M d h;exact c8m b e (by simpa using c) g
theorem B3(M:fx sft W ro w0 ρ m sz env a w)(b:V.funcs[f]?=J z)(c:z.results=S.toArray)(d:ga S.length 4=true)(h:uJ ⟨m,env,0,[],True⟩ S=J T)(e:iv V F true sft Stop (G (o.finish ((uZ T).den ρ)) B) w):iv V F true sft Stop (G ((aB f).at a (.code .ret::k)) (o::B)) w :=
 uL (OU Z M.defers b (Kn M c d h) e)
theorem Cr(M:fx sft W ro w0 ρ m sz env a w)(b:V.funcs[f]?=J z)(c:z.results=S.toArray)(d:ga S.length 4=true)(h:uJ ⟨m,env,0,[],True⟩ S=J T)(e:iv V F true sft Stop (G (o.finish ((uZ T).den ρ)) B) w):iv V F true sft Stop (G ((aB f).at a []) (o::B)) w :=
 c7C (OU Z M.defers b (Kn M c d h) e)
theorem uk{op:Op}(v:Sv)(M:fx sft W ro w0 ρ m sz env a w)(h:ops[b]?=J q)(i:q.guard=Q)(j:q.op=op)(y:qG V (λ_=>false) [] false op=true)(l:q.dst=J c)(n:cJ c sz=true)(o:qU c v env=J env')(r:v.ok ρ.length)(t:∀(e:aN) (u:Wd),e.op=op->u.heap=w.heap->(Ex a.eval e).run V u=.ok (.value (v.den ρ)) u)(x:∀g,fx sft W ro w0 ρ m sz env' g w->iv V F true sft Stop (G ((aB f).at g (.inRegion ops p::k)) B) w):iv V F true sft Stop (G ((aB f).at a (.inRegion ops (b::p)::k)) B) w:=by
 refine xm h (B7 i) (by show aX≠.early;decide) (by grind) (λd=>t q _ j Z) ?_;rw[l];exact x _ (M.put (by simpa using n) r o)
theorem fx.to(M:fx sft W ro w0 ρ m sz env a w){w':Wd}(h:w.heap.size<=w'.heap.size)(d:∀i,i<ρ.length->w'.heap[(ox ρ i).1]?=w.heap[(ox ρ i).1]?)(j:∀k,k<w0.heap.size->k∉W->w'.heap[k]?=w.heap[k]?)(l:Fit sft w'):fx sft W ro w0 ρ m sz env a w' :=
 ⟨M.lv,λe n=>by
  let⟨b,c,o⟩:=M.ce e n
  exact⟨b,c,(Zf (w:=w) (d _ b)).trans o⟩,M.wf,λi g=>by rw[d i g];exact M.bl i g,M.ij,M.own,Zh M.size h,λk b c=>(j k b c).trans (M.old k b c),l,M.new⟩
theorem Cn(M:fx sft W ro w0 ρ m sz env a w):∀ {b:List aU} {c:List Vu},(b.map λx=>(ql env x).map (·.den ρ))=c.map J->b.map a.eval=c
 | [],[],_=>rfl
 | [],_::_,h=>by cases h
 | _::_,[],h=>by cases h
 | x::b,v::c,h=>by
  simp only[cZ,fK]at h
  cases d:ql env x with
  | none=>grind
  | some s =>
   rw[d]at h;have e:s.den ρ=v:=Ze h.1;rw[cZ,(M.rd d).1,e,Cn M h.2]
theorem A4{j:Array Ti}{h:Vu->Wd->Prop}(M:fx sft W ro w0 ρ m sz env a w)(l:py F sft d H.toArray w h)(i:ops[b]?=J q)(n:q.guard=Q)(o:q.op=.call { callee:=.value (.func d),args:=L,argTypes:=j })(r:V.funcs[d]?=J z)(u:(z.name== "runtime.NumGoroutine")=false)(v:z.body=J t)(y:(L.toList.map λx=>(ql env x).map (·.den ρ))=H.map J)(A:q.dst=J c)(E:cJ c sz=true)(C:∀x g,h x g->iv V F true sft Stop (G ((aB f).at (a.put (J c) x) (.inRegion ops p::k)) B) g):iv V F true sft Stop (G ((aB f).at a (.inRegion ops (b::p)::k)) B) w:=by
 refine zb i (B7 n) (by show aX≠.early;decide) o r u v ?_;have e:L.map a.eval=H.toArray:=by
  rw[←ir (xs:=L.map a.eval),gM,Cn M y]
 rw[e];refine l Stop _ B λx g D=>?_;rw[zC i,A];exact C x g D
theorem fx.got(M:fx sft W ro w0 ρ m sz env a w){D:Nat}(b:cJ D sz=true)(v:Sv)(c:v.ok ρ.length){x:Vu}(d:x=v.den ρ){env':m7}(e:qU D v env=J env'):fx sft W ro w0 ρ m sz env' (a.put (J D) x) w:=by
 subst d;exact M.put (by simpa using b) c e
theorem fx.cut{c:oN}(M:fx sft W ro w0 (ρ++c) m sz env a w)(r:∀p∈env',p∈env/\p.2.ok ρ.length)(x:∀e∈m',e∈m/\e.1<ρ.length/\e.2.2.ok ρ.length):fx sft W ro w0 ρ m' sz env' a w:=by
 have g:∀i,i<ρ.length->i<(ρ++c).length:=λi h=>by simp;omega
 have d:∀i,i<ρ.length->ox (ρ++c) i=ox ρ i:=λi h=>T6 ρ c i h;refine⟨⟨M.lv.size,M.lv.defers,λp l=>?_⟩,λe h=>?_,λp l=>(r p l).2,λi b=>by rw[←d i b];exact M.bl i (g i b),λi j b u y=>by rw[←d i b,←d j u];exact M.ij i j (g i b) (g j u) y,λi z b=>by rw[←d i b];exact M.own i z (g i b),M.size,M.old,M.fit,M.new⟩
 .let⟨t,v⟩:=p;obtain⟨s,n,rfl⟩:=s7.1 l;let⟨o,q⟩:=r _ n;exact M.lv.has _ (s7.2 ⟨s,o,(Sv.oK c q).symm⟩)
 .let⟨n,o,q⟩:=x e h;let⟨C,D,A⟩:=M.ce e n;rw[d _ o,ou.oK c q]at A
  grind
def qi:List (Option Sv)->Nat->Option Sv
 | [],_=>Q
 | v::_,0=>v
 | _::r,n+1=>qi r n
def vj:List aN->Nat->Option aN
 | [],_=>Q
 | o::_,0=>J o
 | _::r,n+1=>vj r n
def vR(j:Nat):List Edge->Bool
 | []=>false
 | e::r=>(cM .any e&&aI e.on j)||vR j r
def CA(ops:List aN)(sz:Nat)(o:aN)(j t:Nat):Bool:=vR j o.after.toList&&(match vj ops j with|some b=>(match b.dst with|some u=>aI u t|none=>false)|none=>false)&&cJ t sz
def Bd(t:Nat):List aN->Bool
 | []=>true
 | o::r=>(match o.dst with|some u=>!aI u t|none=>true)&&Bd t r
def zu(ops:List aN)(b:List (Option Sv))(sz t:Nat)(o:aN):List Edge->Option Sv
 | []=>Q
 | e::r=>match CA ops sz o e.on t with
  | true=>qi b e.on
  | false=>zu ops b sz t o r
def vl(ops:List aN)(b:List (Option Sv))(env:m7)(sz:Nat)(o:aN):aU->Option Sv
 | .tmp t=>match Bd t ops with
  | true=>tV env t
  | false=>zu ops b sz t o o.after.toList
 | .const c=>J (.c (.v c))
 | _=>Q
def Ar(ops:List aN)(b:List (Option Sv))(sz:Nat)(o:aN):Option Bool:=match o.guard with
 | none=>J true
 | some (j,y)=>match vj ops j with
  | some c=>match c.dst with
   | some t=>match CA ops sz o j t with
    | true=>match qi b j with
     | some (.c (.v (.bool x)))=>J (x==y)
     | _=>Q
    | false=>Q
   | none=>Q
  | none=>Q
theorem xN(ops:Array aN)(j:Nat):vj ops.toList j=ops[j]?:=by
 have:∀(l:List aN) (j:Nat),vj l j=l[j]?:=by
  intro l
  induction l with
  | nil=>intro j;simp[vj]
  | cons o r b=>intro j;cases j with
   | zero=>rfl
   | succ j=>simp[vj,b]
 grind
theorem Ax{c:Array Edge}(h:vR b c.toList=true):(c.any λe=>cM .any e&&e.on==b)=true:=by
 have:∀l:List Edge,vR b l=true->(l.any λe=>cM .any e&&e.on==b)=true:=by
  intro l
  induction l with
  | nil=>intro h;cases h
  | cons e r d =>
   intro h;simp only[vR,da,aC]at h;simp only[List.any_cons,da,aC,beq_iff_eq];exact h.imp (λh=>⟨h.1,Zl h.2⟩) d
 grind
theorem Cz{ops:Array aN}{sz:Nat}(h:CA ops.toList sz q b c=true):∃d,ops[b]?=J d/\(q.after.any λe=>cM .any e&&e.on==b)=true/\d.dst=J c/\c<sz:=by
 simp only[CA,aC,xN]at h;let⟨⟨i,g⟩,j⟩:=h;split at g
 .next d l =>
  split at g
  .next u n=>exact⟨d,l,Ax i,by simp_all,by simpa using j⟩
  .cases g
 .cases g
theorem Jz{ops:Array aN}(h:Bd b ops.toList=true):((aM ops.size).all λi=>((ops[i]?).map λo=>o.dst != J b).getD true)=true:=by
 have:∀l:List aN,Bd b l=true->∀o∈l,o.dst≠J b:=by
  intro l
  induction l with
  | nil=>grind
  | cons x r d =>
   intro h o c;simp only[Bd,aC]at h;rcases ae.1 c with rfl|c
   .intro e
    simp_all
   grind
 refine aV.2 λi _=>?_
 cases c:ops[i]? with
 | none=>rfl
 | some o =>
  have:=this _ h o (by grind);simpa using this
abbrev rG:=List (Nat×Nat×Nat×ou)
def AA(q i:Nat):Nat->List ou->rG->rG
 | _,[],r=>r
 | o,c::l,r=>(q,i,o,c)::AA q i (o+1) l r
def uX(w0:Wd)(W:List Nat)(ro n:Nat)(ops:Array aN)(d:Mem)(env:m7)(sz i:Nat)(b:List (Option Sv))(c:pW):Option (Option Sv×rG×pW×Option Prop):=match vj ops.toList i with
 | some o=>match Ar ops.toList b sz o with
  | some false=>match o.dst with
   | some _=>J (J (.c (.v Ud)),[],c,Q)
   | none=>Q
  | some true=>match zE w0 W d (vl ops.toList b env sz o) c o.op with
   | some (.val v,orc',C)=>match o.dst with
    | some _=>J (J v,[],orc',C)
    | none=>Q
   | some (.st j off l,_,_)=>match o.dst,o.guard,ga ro j&&cJ j n with
    | none,none,true=>J (Q,AA i j off l [],c,Q)
    | _,_,_=>Q
   | _=>Q
  | none=>Q
 | none=>Q
def yz(w0:Wd)(W:List Nat)(ro n:Nat)(ops:Array aN)(b:Mem)(env:m7)(sz:Nat):Nat->Nat->List (Option Sv)->rG->pW->Prop->Option (List (Option Sv)×rG×pW×Prop)
 | 0,_,V,S,qL,C=>J (V,S,qL,C)
 | f+1,i,V,S,qL,C=>match uX w0 W ro n ops b env sz i V qL with
  | some (v,s,orc',c)=>yz w0 W ro n ops b env sz f (i+1) (V++[v]) (S++s) orc' (Aq C c)
  | none=>Q
def BJ:rG->Bool
 | []=>true
 | (_,i,o,_)::r=>(r.all λe=>!(aI i e.2.1&&aI o e.2.2.1))&&BJ r
def Ec(m:Mem):rG->Bool
 | []=>true
 | (_,i,o,_)::r=>(rf m i o).isSome&&Ec m r
def BC(S:rG):Mem->Mem->Option Mem
 | [],acc=>J acc
 | (i,o,c)::r,acc=>match S.any λe=>aI i e.2.1&&aI o e.2.2.1 with
  | true=>BC S r acc
  | false=>BC S r ((i,o,c)::acc)
def Cq:rG->Mem->Option Mem
 | [],m=>J m
 | (_,i,o,c)::r,m=>Cq r ((i,o,c)::m)
def uW(ops:Array aN)(sz:Nat):Nat->List (Option Sv)->m7->Option m7
 | _,[],env=>J env
 | i,v::r,env=>match vj ops.toList i with
  | some o=>match o.dst,v with
   | some D,some s=>match cJ D sz with
    | true=>match qU D s env with
     | some e=>uW ops sz (i+1) r e
     | none=>Q
    | false=>Q
   | none,Q=>uW ops sz (i+1) r env
   | some D,Q=>match tJ D env [] with
    | some e=>uW ops sz (i+1) r e
    | none=>Q
   | _,_=>Q
  | none=>Q
def Nl(ops:Array aN)(m b:Mem)(S:rG):Bool:=BJ S&&Ec m S&&(S.all λe=>(rf b e.2.1 e.2.2.1).isNone)&&ux ops&&(aM ops.size).all λi=>((ops[i]?).map (·.after.all λe=>!cM .any e||decide (e.on<i))).getD true
def uF:List aN->Nat
 | []=>0
 | _::r=>uF r+1
theorem ES(ops:Array aN):uF ops.toList=ops.size:=by
 have:∀l:List aN,uF l=l.length:=by
  intro l
  induction l with
  | nil=>rfl
  | cons o r b=>simp[uF,b]
 grind
def Ba(w0:Wd)(W:List Nat)(ro sz:Nat)(ops:Array aN):Sm->Option Sm
 | ⟨m,env,n,qL,cond⟩=>match yz w0 W ro n ops m env sz (uF ops.toList) 0 [] [] qL cond with
  | some (V,S,orc',C)=>match BC S m [] with
   | some b=>match uW ops sz 0 V env,Cq S b with
    | some env',some m'=>J ⟨m',env',n,orc',(C/\yz w0 W ro n ops b env sz (uF ops.toList) 0 [] [] qL cond=J (V,S,orc',C))/\Nl ops m b S=true⟩
    | _,_=>Q
   | none=>Q
  | none=>Q
theorem GM{S:rG}:∀ {m b d:Mem},BC S m b=J d->∀e∈d,e∈m\/e∈b
 | [],b,d,h,e,he=>by cases Ze h;exact .inr he
 | (i,o,c)::r,b,d,h,e,he=>by
  unfold BC at h;split at h
  .exact(GM h e he).imp_left (ah _)
  .rcases GM h e he with h|h
   all_goals grind
theorem Cp:∀ {l:List ou} {o:Nat} {r:rG} {e:Nat×Nat×Nat×ou},e∈AA b c o l r↔(∃j d,l[j]?=J d/\e=(b,c,o+j,d))\/e∈r
 | [],o,r,e=>by simp[AA]
 | d::l,o,r,e=>by
  simp only[AA,ae,Cp (l:=l)];constructor
  .rintro(rfl|⟨j,c',h,rfl⟩|h)
   .simp_all
   .exact .inl ⟨j+1,c',h,by rw[show o+(j+1)=o+1+j by omega]⟩
   .exact .inr h
  grind
theorem xv:∀(b:List (Option Sv)) (j:Nat),qi b j=(b[j]?).getD Q
 | [],j=>by simp[qi]
 | v::r,0=>rfl
 | v::r,j+1=>by simp[qi,xv r j]
theorem Gv{w0:Wd}{W:List Nat}{ro:Nat}{ops:Array aN}{env:m7}{sz:Nat}:∀ {f i:Nat} {d g:List (Option Sv)} {S l:rG} {o u:pW} {C p:Prop},d.length=i->yz w0 W ro b ops I env sz f i d S o C=J (g,l,u,p)->g.length=i+f/\(∀j,j<i->g[j]?=d[j]?)/\(∀e∈S,e∈l)/\(p->C)/\∃n:Nat->pW,(∀j,i<=j->j<i+f->∃v s q c,uX w0 W ro b ops I env sz j (g.take j) (n j)=J (v,s,q,c)/\g[j]?=J v/\(p->Au c)/\∀e∈s,e∈l)/\∀e∈l,e∈S\/∃j v s q c,i<=j/\j<i+f/\uX w0 W ro b ops I env sz j (g.take j) (n j)=J (v,s,q,c)/\e∈s
 | 0,i,d,g,S,l,o,u,C,p,hl,h=>by
  obtain⟨rfl,x⟩:=ax (Ze h);obtain⟨rfl,y⟩:=ax x;obtain⟨rfl,rfl⟩:=ax y;exact⟨by omega,λ_ _=>rfl,λ_ h=>h,id,λ_=>[],λj x y=>by omega,λe h=>.inl h⟩
 | f+1,i,d,g,S,l,o,u,C,p,hl,h=>by
  unfold yz at h;split at h
  .next v s D c E =>
   let⟨L,P,z,A,n,R,T⟩:=Gv (by simp[hl]) h;have H:∀j,j<i->g[j]?=d[j]?:=λj r=>by
    grind
   have K:g.take i=d:=by
    apply jV
    grind
   have G:∀j,j≠i->(if j=i then o else n j)=n j:=λj r=>nR r;refine⟨by omega,H,λe t=>z e (fP _ t),λh=>(yN (A h)).1,λj=>if j=i then o else n j,λj x y=>?_,λe t=>?_⟩
   .by_cases r:j=i
    .subst r;refine⟨v,s,D,c,by rw[K];simp only[if_true];exact E,?_,λh=>(yN (A h)).2,λe t=>z e (cN _ t)⟩
     grind
    grind
   grind
  .cases h
theorem Mc:∀ {S:rG},BJ S=true->S.Pairwise λe b=>¬(e.2.1=b.2.1/\e.2.2.1=b.2.2.1)
 | [],_=>.nil
 | (q,i,o,c)::r,h=>by
  simp only[BJ,aC]at h;refine List.pairwise_cons.2 ⟨λe d g=>?_,Mc h.2⟩;have:=aV.1 h.1 e d
  simp_all
theorem Yb{S:rG}(h:BJ S=true){e b:Nat×Nat×Nat×ou}(c:e∈S)(g:b∈S)(i:e.2.1=b.2.1)(j:e.2.2.1=b.2.2.1):e=b:=by
 have d:=Mc h;clear h
 induction d with
 | nil=>cases c
 | cons l _ n =>
  grind
theorem ED{m:Mem}:∀ {S:rG},Ec m S=true->∀e∈S,∃c,(e.2.1,e.2.2.1,c)∈m
 | (q,i,o,c)::r,h,e,he=>by
  simp only[Ec,aC]at h;rcases ae.1 he with rfl|he
  .let⟨b,d⟩:=cL.1 h.1;exact⟨b,xM d⟩
  .exact ED h.2 e he
theorem JC{c:ou}:∀ {m:Mem},(b,d,c)∈m->rf m b d≠Q
 | (i',o',x)::r,h,e=>by
  unfold rf at e;split at e
  .cases e
  .next g =>
   rcases ae.1 h with h|h
   .simp_all
   .exact JC h e
theorem PJ:∀ {S:rG} {m m':Mem},Cq S m=J m'->∀e∈m',e∈m\/∃q,(q,e)∈S
 | [],m,m',h,e,he=>by cases Ze h;exact .inl he
 | (q,i,o,c)::r,m,m',h,e,he=>by
  have h:Cq r ((i,o,c)::m)=J m':=h;rcases PJ h e he with h|⟨b,h⟩
  all_goals grind
theorem BK{ops:Array aN}{sz:Nat}:∀ {b:List (Option Sv)} {i:Nat} {env env':m7},uW ops sz i b env=J env'->∀p∈env',(∃j o,i<=j/\ops[j]?=J o/\o.dst=J p.1/\p.1<sz/\b[j - i]?=J (J p.2))\/(p∈env/\∀j o,i<=j->j<i+b.length->ops[j]?=J o->o.dst≠J p.1)
 | [],i,env,env',h,p,hp=>by
  cases Ze h
  grind
 | v::r,i,env,env',h,p,hp=>by
  unfold uW at h;rw[xN]at h;split at h
  .next o u =>
   have up:∀ {env:m7},((∃j o,i+1<=j/\ops[j]?=J o/\o.dst=J p.1/\p.1<sz/\r[j - (i+1)]?=J (J p.2))\/(p∈env/\∀j o,i+1<=j->j<i+1+r.length->ops[j]?=J o->o.dst≠J p.1))->(∃j o,i<=j/\ops[j]?=J o/\o.dst=J p.1/\p.1<sz/\(v::r)[j - i]?=J (J p.2))\/(p∈env/\∀j o,i+1<=j->j<i+1+r.length->ops[j]?=J o->o.dst≠J p.1):=λh=>h.imp_left λ⟨j,o,d,l,x,y,A⟩=>⟨j,o,by omega,l,x,y,by grind⟩
   split at h
   .next D s n =>
    split at h
    .next z =>
     split at h
     .next e q =>
      rcases up (BK h p hp) with g|⟨c,t⟩
      .exact .inl g
      .rcases Cg q p c with rfl|⟨d,l⟩
       .exact .inl ⟨i,o,af _,u,n,by simpa using z,by simp⟩
       grind
     .cases h
    .cases h
   .next n =>
    rcases up (BK h p hp) with g|⟨c,t⟩
    all_goals grind
   .next D n =>
    split at h
    .next e q =>
     rcases up (BK h p hp) with g|⟨c,t⟩
     .exact .inl g
     .rcases BG q p c with⟨d,l⟩|d
      all_goals grind
    .cases h
   .cases h
  .cases h
def rq(ρ:oN)(b:List (Option Sv))(i:Nat):dQ:=match qi b i with
 | some s=>s.den ρ
 | none=>Ud
structure DrI (sft:Nat->Nat) (W:List Nat) (ro:Nat) (w0:Wd) (ρ:oN) (m0:Mem) (sz:Nat) (ops:Array aN) (V:List (Option Sv)) (S:rG) (base:Array Vu) (listed:Array Bool) (x:db×Wd):Prop where
 qT:pE ops (rq ρ V) base listed x.1
 px:fx sft W ro w0 ρ m0 sz [] x.1 x.2
 ok:∀j,listed.getD j false=true->∀s,qi V j=J s->s.ok ρ.length
 kn:∀e∈S,(x.2.cell? (O ((ox ρ e.2.1).1) ((ox ρ e.2.1).2+e.2.2.1) Q)).isSome=true
 st:∀e∈S,listed.getD e.1 false=true->e.2.1<ρ.length/\e.2.2.2.ok ρ.length/\x.2.cell? (O ((ox ρ e.2.1).1) ((ox ρ e.2.1).2+e.2.2.1) Q)=J (e.2.2.2.den ρ)
theorem vK{listed:Array Bool}(h:(listed.setIfInBounds b true).getD c false=true):c=b\/listed.getD c false=true:=by
 by_cases e:b=c
 all_goals simp_all
theorem Dx{d:List (Option Sv)}{s:Sv}(h:qi (d.take b) c=J s):qi d c=J s:=by
 rw[xv]at h ⊢
 grind
theorem fx.fewer{m m':Mem}{env env':m7}(M:fx sft W ro w0 ρ m sz env a w)(c:∀p∈env',p∈env)(d:∀e∈m',e∈m):fx sft W ro w0 ρ m' sz env' a w :=
 ⟨⟨M.lv.size,M.lv.defers,λp b=>by
  let⟨t,v⟩:=p;obtain⟨s,g,rfl⟩:=s7.1 b
  exact M.lv.has _ (s7.2 ⟨s,c _ g,Z⟩)⟩,λe h=>M.ce e (d e h),λp b=>M.wf p (c p b),M.bl,M.ij,M.own,M.size,M.old,M.fit,M.new⟩
theorem fx.act{m:Mem}(M:fx sft W ro w0 ρ m sz [] a w)(b:P.tmps.size=a.tmps.size)(c:P.defers=[]):fx sft W ro w0 ρ m sz [] P w :=
 ⟨⟨b.trans M.lv.size,c,λp d=>(by cases d)⟩,M.ce,M.wf,M.bl,M.ij,M.own,M.size,M.old,M.fit,M.new⟩
theorem EU{env:m7}{d:List (Option Sv)}{l:pW}{v:Option Sv}{i:rG}{r:pW×Option Prop}(h:uX w0 W ro b ops I env sz c d l=J (v,i,r)){e:Nat×Nat×Nat×ou}(g:e∈i):e.1=c:=by
 unfold uX at h
 repeat' split at h
 all_goals first
  | (cases h;done)
  | (let⟨_,p⟩:=ax (Ze h);obtain⟨rfl,_⟩:=ax p;cases g;done)
  | (let⟨_,p⟩:=ax (Ze h);obtain⟨rfl,_⟩:=ax p;rcases Cp.1 g with⟨j,n,_,rfl⟩|g<;>first|rfl|cases g)
theorem Rh{id:Nat}{m m':Mem}{env env':m7}{N:Nat}{z' I':pW}{C C':Prop}(M:fx sft W ro w0 ρ m sz env a w)(hn:N=ρ.length)(h:Ba w0 W ro sz ops ⟨m,env,N,z',C⟩=J ⟨m',env',b,I',C'⟩)(hC:C')(hx:b=ρ.length->C->∀P R,fx sft W ro w0 ρ m' sz env' P R->iv J' F true sft Stop (G ((aB f).at P k) B) R):iv J' F true sft Stop (G ((aB f).at a (.code (.region id ops true)::k)) B) w:=by
 unfold Ba at h;simp only at h;split at h
 case h_2=>cases h
 case h_1 V S' orc1 C1 hV0 =>
 split at h
 case h_2=>cases h
 case h_1 m0 hm0 =>
 split at h
 case h_2=>cases h
 case h_1 env1 m1 hE hS1 =>
 injection h with h
 injection h with u h2 h3 h4 h5
 subst u h2 h5;have hx:=hx (by grind);clear h3 h4 hV0;let⟨⟨hC,hV⟩,A'⟩:=hC;simp only[Nl,aC]at A';let⟨⟨⟨⟨c1,c2⟩,c3⟩,c4⟩,c5⟩:=A';have P':∀e∈m0,e∈m:=λe n=>(GM hm0 e n).resolve_right Zc;have hV:yz w0 W ro N ops m0 env sz ops.size 0 [] [] z' C=J (V,S',orc1,C1):=by rw[←ES ops];exact hV
 let⟨v1,_,_,vc,oj,v4,v5⟩:=Gv (i:=0) Z hV;have hx:=hx (vc hC);simp only[aE]at v1 v4 v5;have M0:fx sft W ro w0 ρ m0 sz env a w:=M.fewer (λ_ h=>h) P';let⟨tm,df⟩:=a;obtain rfl:df=[]:=M.lv.defers;have W':∀i,i<ops.size->∃v s q c,uX w0 W ro N ops m0 env sz i (V.take i) (oj i)=J (v,s,q,c)/\V[i]?=J v/\Au c/\∀e∈s,e∈S':=λi hi=>by
  grind
 have p':∀X' listed (x:db×Wd) n',Ord ops X' listed n'->DrI sft W ro w0 ρ m0 sz ops V S' tm listed x->iv J' F true sft Stop (G ((aB f).at x.1 (.inRegion ops n'::k)) B) x.2:=by
  refine Ee (λfu listed x i n' hi g hO B'=>?_) λlisted x Y' g=>?_
  .let⟨P,R⟩:=x;have Z':=xE hi;let⟨v,sl,orq,cq,u,h2,hcq,h3⟩:=W' i Z';have vi:qi V i=v:=by rw[xv,h2];rfl
   have h1o:=u;unfold uX at u;rw[xN]at u;split at u
   case h_2=>cases u
   case h_1 o ho =>
   have q':∀x s,vl ops.toList (V.take i) env sz o x=J s->P.eval x=s.den ρ/\s.ok ρ.length:=λx s L=>by
    unfold vl at L;split at L
    .next t =>
     split at L
     .next E =>
      have D':=xe L;exact⟨g.qT.base (Jz E) (M.lv.has _ (s7.2 ⟨s,D',Z⟩)),M.wf _ D'⟩
     .have p':∀ {l:List Edge},zu ops.toList (V.take i) sz t o l=J s->P.eval (.tmp t)=s.den ρ/\s.ok ρ.length:=by
       intro l
       induction l with
       | nil=>intro h;cases h
       | cons e r ih =>
        intro h;unfold zu at h;split at h
        .next hw =>
         have K:=Dx h;let⟨oj,T,g3,g4,g5⟩:=Cz hw;have H:=k9 hi ho g3;exact⟨g.qT.tmp T g4 H (by have:=M.lv.size;simp at this;omega) (by unfold rq;rw[K]),g.ok _ H s K⟩
        .exact ih h
      exact p' L
    .cases Ze L;exact⟨Z,nQ⟩
    .cases L
   have E':∀b',Ar ops.toList (V.take i) sz o=J b'->bR o (fA ops P.tmps)=b':=λb' E=>by
    unfold Ar at E;split at E
    .next hg=>rw[B7 hg];exact Ze E
    .next j y hg =>
     rw[xN]at E;split at E
     .next oj K =>
      split at E
      .next t ht =>
       split at E
       .next hw =>
        split at E
        .next x t' =>
         let⟨oj',T,g3,g4,g5⟩:=Cz hw;have H:=k9 hi ho g3;have I:=g.qT.done j oj t K ht H (by have:=M.lv.size;simp at this;omega);unfold rq at I;rw[Dx t']at I;rw[Iz hg K ht I];exact Ze E
        .cases E
       .cases E
      .cases E
     .cases E
   have F':∀sv:Sv,v=J sv->sl=[]->sv.ok ρ.length->iv J' F true sft Stop (G ((aB f).at (P.put o.dst (sv.den ρ)) (.inRegion ops n'::k)) B) R:=λsv I L hok=>by
    have vv:rq ρ V i=sv.den ρ:=by unfold rq;rw[vi,I]
    have ag:=g.qT.put c4 ho vv;refine B' (P.put o.dst (sv.den ρ),R) ⟨ag,g.px.act (by rw[ag.size,←g.qT.size]) ag.defs,λj K s L=>?_,g.kn,λe n H=>?_⟩
    .rcases vK K with rfl|K
     .grind
     .exact g.ok j K s L
    .rcases vK H with A|H
     .rcases v5 e n with h|⟨j,v',s',_,_,q1,S,X,q4⟩
      .cases h
      .have e1:e.1=j:=EU X q4
       grind
     .exact g.st e n H
   split at u
   case h_3=>cases u
   case h_1 hw =>
    split at u
    case h_2=>cases u
    case h_1 D hd =>
    obtain⟨rfl,p1⟩:=ax (Ze u);obtain⟨rfl,_⟩:=ax p1;exact Hk ho (E' _ hw) (F' (.c (.v Ud)) Z Z nQ)
   case h_2 hw =>
   split at u
   case h_3=>cases u
   case h_1 sv _ cv I =>
    split at u
    case h_2=>cases u
    case h_1 D hd =>
    obtain⟨rfl,p1⟩:=ax (Ze u);obtain⟨rfl,p2⟩:=ax p1;obtain⟨_,rfl⟩:=ax p2;have ov:=λd=>FM (w:=R.at d) q' g.px.ce g.px.old I hcq;exact xm ho (E' _ hw) (by show aX≠.early;decide) (ov 0).1.2 (λd=>(ov d).1.1) (F' sv Z Z (ov 0).2)
   case h_2 j off l _ _ I =>
   have I:=(HP I).resolve_right (λ⟨s,e⟩=>by cases e);split at u
   case h_2=>cases u
   case h_1 hd hg K =>
   obtain⟨rfl,p1⟩:=ax (Ze u);obtain⟨rfl,_⟩:=ax p1;let⟨t,x,y,row,z,sv,hop,t',ht,hy,H,hln,hon⟩:=Mh I;simp only[aC,Nat.ble_eq,Nat.blt_eq]at K;let⟨hj1,k'⟩:=K;rw[hn]at k';let⟨ex,_⟩:=q' _ _ t';let⟨ey,oky⟩:=q' _ _ hy;let⟨ec,okc⟩:=xD (ρ:=ρ) H;let⟨⟨c0,t0,E⟩,hsf⟩:=g.px.bl j k';have u':∀q c,l[q]?=J c->(i,j,off+q,c)∈S':=λq c hc=>h3 _ (Cp.2 (.inl ⟨q,c,hc,Z⟩));refine wN g.px.lv ho hg hop hd E hsf g.px.fit ex ey ec (by rw[bC,hln];exact(W9 ht).1) (λv I=>?_) (λq A=>?_) λw2 s1 s2 s3 s4 s5 s6=>?_
   .obtain⟨x,hx,rfl⟩:=dn.1 I;exact zM (aV.1 hon x hx)
   .rw[bC]at A;have:=g.kn _ (u' q _ (br A))
    grind
   .have cin:∀q c,l[q]?=J c->w2.cell? (O ((ox ρ j).1) ((ox ρ j).2+(off+q)) Q)=J (c.den ρ):=λq c hc=>by
     grind
    have x':∀i' o',i'<ρ.length->(∀q,q<l.length->¬(i'=j/\o'=off+q))->w2.cell? (O ((ox ρ i').1) ((ox ρ i').2+o') Q)=R.cell? (O ((ox ρ i').1) ((ox ρ i').2+o') Q):=λi' o' l' A=>by
     by_cases e:i'=j
     .subst e;refine s5 _ ?_;rw[bC];rcases bU o' off with q|q
      .grind
      .rcases bU o' (off+l.length) with S|S
       .exact absurd ⟨Z,by omega⟩ (A (o' - off) Za)
       grind
     .exact Zf (w:=R) (s2 _ (g.px.ij _ _ l' k' e))
    have ag:=g.qT.put c4 ho (v:=Ud) (by unfold rq;rw[vi]);rw[hd]at ag;refine B' (P,w2) ⟨ag,⟨g.px.lv,λe n=>?_,g.px.wf,λq A=>⟨?_,(g.px.bl q A).2⟩,g.px.ij,g.px.own,by rw[s1];exact g.px.size,λk hk1 hk2=>?_,s6,g.px.new⟩,λq A s L=>?_,λe n=>?_,λe n H=>?_⟩
    .let⟨g1,T,g3⟩:=g.px.ce e n;refine⟨g1,T,(x' _ _ g1 λq A hc=>?_).trans g3⟩;have:=aV.1 c3 _ (u' q _ (br A));simp only[Option.isNone_iff_eq_none]at this;refine JC (c:=e.2.2) ?_ this
     grind
    .by_cases e:q=j
     .subst e;exact s3
     .rw[s2 _ (g.px.ij _ _ A k' e)];exact(g.px.bl q A).1
    .rw[s2 k λe=>?_]
     .exact g.px.old k hk1 hk2
     .rcases g.px.own j hj1 k' with q|q
      all_goals grind
    .rcases vK A with rfl|A
     .grind
     .exact g.ok q A s L
    .let⟨c,hc⟩:=ED c2 e n;have l':=(M.ce _ hc).1
     by_cases A:∃q,q<l.length/\e.2.1=j/\e.2.2.1=off+q
     .grind
     .rw[x' _ _ l' λq q1 S=>A ⟨q,q1,S⟩];exact g.kn e n
    .let⟨c,hc⟩:=ED c2 e n;have l':=(M.ce _ hc).1
     by_cases A:∃q,q<l.length/\e.2.1=j/\e.2.2.1=off+q
     .let⟨q,q1,S,X⟩:=A;have ee:=Yb c1 n (u' q _ (br q1)) S X
      grind
     .rw[x' _ _ l' λq q1 S=>A ⟨q,q1,S⟩];rcases vK H with he1|H
      .rcases v5 e n with h|⟨j',v',s',_,_,q1,S,X,q4⟩
       .cases h
       .have e1:e.1=j':=EU X q4;obtain rfl:j'=i:=by omega
        rw[h1o]at X;let⟨_,p3⟩:=ax (Ze X);obtain⟨rfl,_⟩:=ax p3;rcases Cp.1 q4 with⟨q,c,p1,p2⟩|h
        all_goals grind
      .exact g.st e n H
  .let⟨P,R⟩:=x;have y':=V0 c5 g.qT.len Y';have G':∀j s,V[j]?=J (J s)->j<ops.size:=λj s h=>by
    grind
   have ev:=BK hE;refine i8 (hx P R ⟨⟨g.px.lv.size,g.px.lv.defers,λp hp=>?_⟩,λe n=>?_,λp hp=>?_,g.px.bl,g.px.ij,g.px.own,g.px.size,g.px.old,g.px.fit,g.px.new⟩)
   .let⟨t,v⟩:=p;obtain⟨s,u,rfl⟩:=s7.1 hp;rcases ev _ u with⟨j,o,_,g1,T,g3,g4⟩|⟨g1,T⟩
    .have I:=g.qT.done j o t g1 T (y' j (G' _ _ g4)) (by have:=M.lv.size;simp at this;omega);unfold rq at I;rw[xv,show V[j]?=_ from g4]at I;exact I
    .rw[g.qT.still t λj o ho hd=>?_]
     .exact M.lv.has _ (s7.2 ⟨s,g1,Z⟩)
     grind
   .rcases PJ hS1 e n with n|⟨q,n⟩
    .exact g.px.ce e n
    .have e1:q<ops.size:=by
      rcases v5 _ n with h|⟨j',v',s',_,_,q1,S,X,q4⟩
      .cases h
      .have e1:q=j':=EU X q4;omega
     exact g.st _ n (y' q e1)
   .rcases ev _ hp with⟨j,o,_,g1,T,g3,g4⟩|⟨g1,T⟩
    .exact g.ok j (y' j (G' _ _ g4)) _ (by rw[xv,show V[j]?=_ from g4];rfl)
    .exact M.wf _ g1
 refine λd0=>Bm (λt d=>?_) d0
 exact p' _ _ (⟨tm,[]⟩,w) _ (xT Zd ops t) ⟨pE.start ops _ tm,M0.fewer (λ_ h=>(by cases h)) λ_ h=>h,λj K=>(by rw[V9]at K;cases K),λe n=>(by
  let⟨c,hc⟩:=ED c2 e n
  rw[(M.ce _ hc).2.2];rfl),λe n H=>(by rw[V9]at H;cases H)⟩ d
def Av(w0:Wd)(W:List Nat)(ro sz:Nat)(s:Sm):List bm->Option (List bm×Sm)
 | .code (.seq x y)::k=>J (.code x::.code y::k,s)
 | .code .skip::k=>J (k,s)
 | .code (.block id c)::k=>J (.code c::.inBlock id::k,s)
 | .code (.loop c)::k=>J (.code c::.inLoop c::k,s)
 | .code (.exit id)::k=>match fN id k with
  | some d=>J (d,s)
  | none=>Q
 | .code (.region _ ops false)::k=>J (.inRegion ops (aM ops.size)::k,s)
 | .code (.region _ ops true)::k=>match Ba w0 W ro sz ops s with
  | some b=>J (k,b)
  | none=>Q
 | .inBlock _::k=>J (k,s)
 | .inLoop c::k=>J (.code c::.inLoop c::k,s)
 | .inRegion _ []::k=>J (k,s)
 | .inRegion ops (i::L)::k=>match Az w0 W ro ops sz i s with
  | some b=>J (.inRegion ops L::k,b)
  | none=>Q
 | _=>Q
def sH(w0:Wd)(W:List Nat)(ro sz:Nat):Nat->List bm->Sm->List bm×Sm
 | 0,k,s=>(k,s)
 | n+1,k,s=>match Av w0 W ro sz s k with
  | some (k',s')=>sH w0 W ro sz n k' s'
  | none=>(k,s)
theorem YN(M:fx sft W ro w0 ρ s.m sz s.env a w)(o:s.n=ρ.length){k j:List bm}{c:Sm}(h:Av w0 W ro sz s k=J (j,c))(p:c.cond)(l:s.cond->∀e g (q:List Nat),c.n=(ρ++q.map λb=>(b,0)).length->fx sft W ro w0 (ρ++q.map λb=>(b,0)) c.m sz c.env e g->iv V F true sft Stop (G ((aB f).at e j) B) g) :
  iv V F true sft Stop (G ((aB f).at a k) B) w:=by
 have d:c.n=s.n->c.m=s.m->c.env=s.env->c.cond=s.cond->iv V F true sft Stop (G ((aB f).at a j) B) w:=λr t y z=>l (by grind) a w [] (by grind) (by grind);unfold Av at h;split at h
 .obtain⟨rfl,rfl⟩:=ax (Ze h);exact B6 (d Z Z Z Z)
 .obtain⟨rfl,rfl⟩:=ax (Ze h);exact DO (d Z Z Z Z)
 .obtain⟨rfl,rfl⟩:=ax (Ze h);exact c0T (d Z Z Z Z)
 .obtain⟨rfl,rfl⟩:=ax (Ze h);exact c4F (d Z Z Z Z)
 .split at h
  .next v =>
   obtain⟨rfl,rfl⟩:=ax (Ze h);exact c4E v (d Z Z Z Z)
  .cases h
 .obtain⟨rfl,rfl⟩:=ax (Ze h);exact m9 (d Z Z Z Z)
 .split at h
  .next u n =>
   obtain⟨rfl,rfl⟩:=ax (Ze h);let⟨A,C,D,E,H⟩:=s;let⟨I,K,n1,P,R⟩:=u;exact Rh M o n p λr t e g x=>l t e g [] (by simpa using r) (by simpa using x)
  .cases h
 .obtain⟨rfl,rfl⟩:=ax (Ze h);exact b5j (d Z Z Z Z)
 .obtain⟨rfl,rfl⟩:=ax (Ze h);exact QE (d Z Z Z Z)
 .obtain⟨rfl,rfl⟩:=ax (Ze h);exact i8 (d Z Z Z Z)
 .next ops i L S =>
  split at h
  .next u n =>
   obtain⟨rfl,rfl⟩:=ax (Ze h);exact Rf M o n p l
  .cases h
 .cases h
theorem b8q{w0:Wd}{W:List Nat}{ro sz:Nat}{ops:Array aN}{s d:Sm}(h:Az w0 W ro ops sz b s=J d)(c:d.cond):s.cond:=by
 let⟨m,env,n,g,cond⟩:=s;unfold Az at h;simp only at h
 repeat' split at h
 all_goals first
  | (cases h;done)
  | (have e:=IZ h;rw[e]at c;first|exact(yN c).1|exact c)
  | grind
theorem b7g{w0:Wd}{W:List Nat}{ro sz:Nat}{ops:Array aN}{s b:Sm}(h:Ba w0 W ro sz ops s=J b)(c:b.cond):s.cond:=by
 let⟨m,env,n,d,cond⟩:=s;unfold Ba at h;simp only at h
 repeat' split at h
 all_goals first
  | (cases h;done)
  | (cases Ze h;exact(Gv (i:=0) Z c.1.2).2.2.2.1 c.1.1)
theorem c0g{w0:Wd}{W:List Nat}{ro sz:Nat}{s c:Sm}{k e:List bm}(h:Av w0 W ro sz s k=J (e,c))(b:c.cond):s.cond:=by
 unfold Av at h
 repeat' split at h
 all_goals first
  | (cases h;done)
  | (rename_i d;obtain⟨_,rfl⟩:=ax (Ze h);first|exact b8q d b|exact b7g d b|exact b)
  | (obtain⟨_,rfl⟩:=ax (Ze h);exact b)
theorem OG{w0:Wd}{W:List Nat}{ro sz:Nat}:∀ {n:Nat} {s b:Sm} {k c:List bm},sH w0 W ro sz n k s=(c,b)->b.cond->s.cond
 | 0,s,b,k,c,h,hC=>by obtain⟨_,rfl⟩:=ax h;exact hC
 | n+1,s,b,k,c,h,hC=>by
  unfold sH at h;split at h
  .next d=>exact c0g d (OG h hC)
  grind
variable{u:List bm}{z:Nat}{C:Prop}
theorem Ms:∀(n:Nat) {s c:Sm} {ρ:oN} {a:db} {w:Wd} {k u:List bm},fx sft W ro w0 ρ s.m sz s.env a w->s.n=ρ.length->sH w0 W ro sz n k s=(u,c)->c.cond ->
  (s.cond->∀g i (d:List Nat),c.n=(ρ++d.map λb=>(b,0)).length->fx sft W ro w0 (ρ++d.map λb=>(b,0)) c.m sz c.env g i->iv V F true sft Stop (G ((aB f).at g u) B) i)->iv V F true sft Stop (G ((aB f).at a k) B) w
 | 0,s,c,ρ,a,w,k,u,M,hn,h,hC,hx=>by
  obtain⟨rfl,rfl⟩:=ax h;exact hx hC a w [] (by simpa using hn) (by simpa using M)
 | n+1,s,c,ρ,a,w,k,u,M,hn,h,hC,hx=>by
  unfold sH at h;split at h
  .next t o p =>
   by_cases j:o.cond
   .refine YN M hn p j λv x y d q r=>Ms n r q h hC λ_ A D l E H=>?_;have e:(ρ++d.map λb=>(b,0))++l.map (λb=>(b,0))=ρ++(d++l).map λb=>(b,0):=by simp
    grind
   .exact absurd (OG h hC) j
  simp_all
theorem mw(n N:Nat)(c:pW)(M:fx sft W ro w0 ρ m sz env a w)(i:N=ρ.length)(h:sH w0 W ro sz n k ⟨m,env,N,c,True⟩=(u,⟨m',env',z,[],C⟩))(j:C)(l:∀d e (g:List Nat),z=(ρ++g.map λb=>(b,0)).length->fx sft W ro w0 (ρ++g.map λb=>(b,0)) m' sz env' d e->iv V F true sft Stop (G ((aB f).at d u) B) e):iv V F true sft Stop (G ((aB f).at a k) B) w :=
 Ms n (s:=⟨m,env,N,c,True⟩) M i h j λ_=>l
theorem iN(n N:Nat)(d:pW)(M:fx sft W ro w0 ρ m sz env a w)(e:N=ρ.length)(h:sH w0 W ro sz n k ⟨m,env,N,d,True⟩=(u,⟨m',env',N,[],C⟩))(g:C)(i:∀b c,fx sft W ro w0 ρ m' sz env' b c->iv V F true sft Stop (G ((aB f).at b u) B) c):iv V F true sft Stop (G ((aB f).at a k) B) w :=
 mw n N d M e h g λb c j l o=>by
  simp_all
theorem sq(n N:Nat)(e:pW)(M:fx sft W ro w0 ρ m sz env a w)(g:N=ρ.length)(h:sH w0 W ro sz n k ⟨m,env,N,e,True⟩=(u,⟨m',env',N+1,[],C⟩))(i:C)(o:∀c d b,fx sft W ro w0 (ρ++[(b,0)]) m' sz env' c d->iv V F true sft Stop (G ((aB f).at c u) B) d):iv V F true sft Stop (G ((aB f).at a k) B) w :=
 mw n N e M g h i λc d j l p=>by
  obtain⟨b,rfl⟩:=List.length_eq_one_iff.1 (show j.length=1 by simp at l;omega)
  grind
theorem qp(n N:Nat)(g:pW)(M:fx sft W ro w0 ρ m sz env a w)(j:N=ρ.length)(h:sH w0 W ro sz n k ⟨m,env,N,g,True⟩=(u,⟨m',env',N+2,[],C⟩))(l:C)(q:∀d e b c,fx sft W ro w0 (ρ++[(b,0),(c,0)]) m' sz env' d e->iv V F true sft Stop (G ((aB f).at d u) B) e):iv V F true sft Stop (G ((aB f).at a k) B) w :=
 mw n N g M j h l λd e i o r=>by
  have p:i.length=2:=by simp at o;omega
  match i,p with
  | [b,c],_=>grind
theorem oF{x y:jx}(M:fx sft W ro w0 ρ m sz env a w)(h:ql env v=J (.c (.v (Bo D))))(b:D=true)(c:iv V F true sft Stop (G ((aB f).at a (.code x::k)) B) w):iv V F true sft Stop (G ((aB f).at a (.code (.cond v x y)::k)) B) w:=by
 subst b;exact Nk (t:=true) (M.rd h).1 c
theorem oC{x y:jx}(M:fx sft W ro w0 ρ m sz env a w)(h:ql env v=J (.c (.v (Bo D))))(b:D=false)(c:iv V F true sft Stop (G ((aB f).at a (.code y::k)) B) w):iv V F true sft Stop (G ((aB f).at a (.code (.cond v x y)::k)) B) w:=by
 subst b;exact Nk (t:=false) (M.rd h).1 c
def wR:Nat->List Sv->m7
 | _,[]=>[]
 | i,s::r=>(i,s)::wR (i+1) r
theorem yi{s:Sv}:∀ {l:List Sv} {i:Nat},(b,s)∈wR i l->i<=b/\l[b - i]?=J s
 | x::r,i,h=>by
  rcases ae.1 h with h|h
  .grind
  .let⟨c,d⟩:=yi h
   grind
structure zt (sft:Nat->Nat) (W:List Nat) (ro:Nat) (ρ:oN) (m:Mem) (w:Wd):Prop where
 ce:yJ ρ m w
 bl:∀i,i<ρ.length->(∃c t,w.heap[(ox ρ i).1]?=J (.cells c t (0,0)))/\sft (ox ρ i).1=0
 ij:∀i j,i<ρ.length->j<ρ.length->i≠j->(ox ρ i).1≠(ox ρ j).1
 own:∀i,ro<=i->i<ρ.length->(ox ρ i).1∈W
 fit:Fit sft w
 new:∀k,w.heap.size<=k->sft k=0
structure oh (sft:Nat->Nat) (W:List Nat) (w w':Wd):Prop where
 size:w.heap.size<=w'.heap.size
 old:∀k,k<w.heap.size->k∉W->w'.heap[k]?=w.heap[k]?
 fit:Fit sft w'
theorem fx.hJ(M:fx sft W ro w0 ρ m sz env a w):oh sft W w0 w:=⟨M.size,M.old,M.fit⟩
theorem fx.ld(M:fx sft W ro w0 ρ m sz env a w)(i o:Nat){c:ou}(h:rf m i o=J c):w.cell? (O ((ox ρ i).1) ((ox ρ i).2+o) Q)=J (c.den ρ):=(M.ce _ (xM h)).2.2
theorem fx.blk(M:fx sft W ro w0 ρ m sz env a w)(i:Nat)(h:cJ i ρ.length=true):∃c t,w.heap[(ox ρ i).1]?=J (.cells c t (0,0)):=(M.bl i (by simpa using h)).1
theorem y7{f:bF}{g:mR}{c:jx}{n:Vu->Wd->Prop}(b:List Sv)(E:zt sft W ro ρ m w)(r:∀s∈b,s.ok ρ.length)(y:V.funcs[f]?=J g)(A:g.body=J c)(D:g.ntmps=sz)(H:ga b.length sz=true)(h:∀Stop d B a,fx sft W ro w ρ m sz (wR 0 b) a w->(∀x o,n x o->iv V F true sft Stop (G (d.finish x) B) o)->iv V F true sft Stop (G ((aB f).at a [.code c]) (d::B)) w):py F sft f (b.map (·.den ρ)).toArray w n:=λStop d B I=>by
 let⟨a,e,K⟩:=IU (env:=qC ρ (wR 0 b)) (args:=(b.map (·.den ρ)).toArray) y A D (by simpa using H) (λp j=>by
  let⟨t,v⟩:=p;obtain⟨s,l,rfl⟩:=s7.1 j;let⟨_,q⟩:=yi l
  grind)
 rw[e];refine h Stop d B a ⟨K,E.ce,λp j=>?_,E.bl,E.ij,λi l q=>.inl (E.own i l q),af _,λ_ _ _=>rfl,E.fit,E.new⟩ I;let⟨t,s⟩:=p;exact r s (cP (yi j).2)
theorem fx.upd(M:fx sft W ro w0 ρ m sz env a w)(L:oh sft p w e)(q:Nat)(E:ro<=q)(H:q<ρ.length)(o:∀i,i<ρ.length->i≠q->(ox ρ i).1∉p)(I:∀k,k∈p->k∈W\/w0.heap.size<=k)(r:∃c t,e.heap[(ox ρ q).1]?=J (.cells c t (0,0)))(v:∀b∈m',(b∈m/\b.1≠q)\/(b.1=q/\b.2.2.ok ρ.length/\e.cell? (O ((ox ρ q).1) ((ox ρ q).2+b.2.1) Q)=J (b.2.2.den ρ))):fx sft W ro w0 ρ m' sz env a e:=by
 have l:∀i,i<ρ.length->i≠q->e.heap[(ox ρ i).1]?=w.heap[(ox ρ i).1]?:=λi d x=>L.old _ (R7 M d) (o i d x);refine⟨M.lv,λb y=>?_,M.wf,λi d=>⟨?_,(M.bl i d).2⟩,M.ij,M.own,Zh M.size L.size,λk g j=>?_,L.fit,M.new⟩
 .rcases v b y with⟨g,j⟩|⟨g,j,K⟩
  .let⟨n,A,D⟩:=M.ce b g;exact⟨n,A,(Zf (w:=w) (l _ n j)).trans D⟩
  grind
 .by_cases b:i=q
  .subst b;exact r
  .rw[l i d b];exact(M.bl i d).1
 .rw[L.old k (Zg g M.size) λh=>by grind];exact M.old k g j
theorem fx.still(M:fx sft W ro w0 ρ m sz env a w)(L:oh sft [] w e):fx sft W ro w0 ρ m sz env a e :=
 M.to L.size (λi b=>L.old _ (R7 M b) Zc) (λk c _=>L.old k (Zg c M.size) Zc) L.fit
def zl(n:Nat):ou->Bool
 | .v _=>true
 | .p i _=>cJ i n
def JX(n:Nat):qc->Bool
 | .c x=>zl n x
 | .g l=>l.all (zl n)
def tQ(n:Nat):Sv->Bool
 | .c x=>zl n x
 | .g l=>l.all (zl n)
 | .t l=>l.all (JX n)
theorem AK{x:ou}(h:zl b x=true):x.ok b:=by
 cases x with
 | v x=>trivial
 | p i o=>exact nJ h
theorem Xu{x:qc}(h:JX b x=true):x.ok b:=by
 cases x with
 | c x=>exact AK h
 | g l=>exact λy d=>AK (aV.1 h y d)
theorem vo{n:Nat}{x:Sv}(h:tQ n x=true):x.ok n:=by
 cases x with
 | c x=>exact AK h
 | g l=>exact λy b=>AK (aV.1 h y b)
 | t l=>exact λy b=>Xu (aV.1 h y b)
def vx(n:Nat)(env:m7):List Nat->Option m7
 | []=>J []
 | t::r=>match tV env t with
  | some s=>match tQ n s with
   | true=>match vx n env r with
    | some e=>J ((t,s)::e)
    | none=>Q
   | false=>Q
  | none=>Q
def so(n:Nat)(m:Mem):List (Nat×Nat)->Option Mem
 | []=>J []
 | (i,o)::r=>match rf m i o with
  | some c=>match cJ i n&&zl n c with
   | true=>match so n m r with
    | some e=>J ((i,o,c)::e)
    | none=>Q
   | false=>Q
  | none=>Q
theorem yX{env:m7}:∀ {c:List Nat} {env':m7},vx b env c=J env'->∀p∈env',p∈env/\p.2.ok b
 | [],env',h,p,hp=>by cases Ze h;cases hp
 | t::r,env',h,p,hp=>by
  unfold vx at h;split at h
  .next s d =>
   split at h
   .next g =>
    split at h
    .next e i =>
     cases Ze h;rcases ae.1 hp with rfl|hp
     .exact⟨xe d,vo g⟩
     .exact yX i p hp
    .cases h
   .cases h
  .cases h
theorem AE{m:Mem}:∀ {d:List (Nat×Nat)} {m':Mem},so b m d=J m'->∀e∈m',e∈m/\e.1<b/\e.2.2.ok b
 | [],m',h,p,hp=>by cases Ze h;cases hp
 | (i,o)::r,m',h,p,hp=>by
  unfold so at h;split at h
  .next s g =>
   split at h
   .next c =>
    split at h
    .next e j =>
     cases Ze h;simp only[aC]at c;rcases ae.1 hp with rfl|hp
     .exact⟨xM g,nJ c.1,AK c.2⟩
     .exact AE j p hp
    .cases h
   .cases h
  .cases h
variable{ρ2:oN}
theorem fx.pC(M:fx sft W ro w0 (ρ++ρ2) m sz env a w)(n:Nat)(b:List Nat)(c:List (Nat×Nat))(d:n=ρ.length)(e:vx n env b=J env')(g:so n m c=J m'):fx sft W ro w0 ρ m' sz env' a w:=by
 subst d;exact M.cut (yX e) (AE g)
theorem fx.oH(M:fx sft W ro w0 ρ m sz env a w)(n:Nat)(b:List Nat)(c:List (Nat×Nat))(d:n=ρ.length)(e:vx n env b=J env')(g:so n m c=J m'):fx sft W ro w0 ρ m' sz env' a w :=
 fx.pC (ρ2:=[]) (by grind) n b c d e g
theorem fx.E1(M:fx sft W ro w0 ρ m sz env a w)(v:Sv)(d:c=ρ.length)(e:tQ c v=true)(g:cJ b sz=true)(h:j=v.den ρ)(i:qU b v env=J env'):fx sft W ro w0 ρ m sz env' (a.put (J b) j) w:=M.got g v (by rw[←d];exact vo e) h i
theorem E7{F:Bool}{Stop:Gr->Wd->Prop}{f:bF}{k:List bm}{B:List Fm'}(M:fx sft W ro w0 ρ m sz env a w)(n:Nat)(v:Sv)(d:n=ρ.length)(e:tQ n v=true)(g:cJ b sz=true)(i:j=v.den ρ)(l:qU b v env=J env')(h:∀c,fx sft W ro w0 ρ m sz env' c w->iv V F true sft Stop (G ((aB f).at c k) B) w):iv V F true sft Stop (G ((aB f).at (a.put (J b) j) k) B) w:=h _ (M.E1 v d e g i l)
theorem fx.oo(M:fx sft W ro w0 ρ m sz env a w):fx sft ((ρ.drop ro).map (·.1)) ro w ρ m sz env a w:=by
 refine⟨M.lv,M.ce,M.wf,M.bl,M.ij,λi b c=>.inl ?_,af _,λ_ _ _=>rfl,M.fit,λk e=>M.new k (Zh M.size e)⟩;have g:∀(ρ:oN) (ro i:Nat),ro<=i->i<ρ.length->(ox ρ i).1∈(ρ.drop ro).map (·.1):=by
  intro ρ
  induction ρ with
  | nil=>grind
  | cons x r d =>
   intro ro i b c
   cases ro with
   | zero=>cases i with
    | zero=>exact ao ..
    | succ i=>exact ah _ (d 0 i (bh _) (np c))
   | succ ro=>cases i with
    | zero=>cases b
    | succ i=>exact d ro i (Nat.le_of_succ_le_succ b) (np c)
 grind
theorem vP:∀ {ρ:oN} {ro:Nat},b∈(ρ.drop ro).map (·.1)->∃i,ro<=i/\i<ρ.length/\(ox ρ i).1=b
 | [],ro,h=>by simp at h
 | y::r,0,h=>by
  rcases ae.1 h with rfl|h
  .exact⟨0,af _,Nat.succ_pos _,Z⟩
  .let⟨i,_,c,d⟩:=vP (ρ:=r) (ro:=0) h;exact⟨i+1,bh _,Nat.succ_lt_succ c,d⟩
 | y::r,ro+1,h=>by
  let⟨i,e,c,d⟩:=vP (ρ:=r) (ro:=ro) h;exact⟨i+1,Nat.succ_le_succ e,Nat.succ_lt_succ c,d⟩
theorem fx.rK{o:m7}(M:fx sft W ro w0 ρ I sz o P w)(N:fx sft ((ρ.drop ro).map (·.1)) ro w (ρ++ρ2) m sz env a e):fx sft W ro w0 (ρ++ρ2) m sz env a e:=by
 have p:∀i,i<ρ.length->i<(ρ++ρ2).length:=λi h=>by simp;omega
 refine⟨N.lv,N.ce,N.wf,N.bl,N.ij,λi b c=>?_,Zh M.size N.size,λk b c=>?_,N.fit,M.new⟩
 .by_cases l:i<ρ.length
  .rw[T6 ρ ρ2 i l];exact M.own i b l
  .rcases N.own i b c with h|h
   .let⟨j,n,d,g⟩:=vP h;rw[←T6 ρ ρ2 j d]at g;exact absurd g.symm (N.ij i j c (p j d) Za)
   .exact .inr (Zh M.size h)
 .rw[N.old k (Zg b M.size) λh=>?_]
  .exact M.old k b c
  .let⟨j,n,d,g⟩:=vP h;rcases M.own j n d with q|q
   all_goals grind
theorem fx.vN{b:m7}(M:fx sft W ro w0 ρ I sz b P w)(N:fx sft ((ρ.drop ro).map (·.1)) ro w ρ m sz env a e):fx sft W ro w0 ρ m sz env a e:=by
 have:=M.rK (ρ2:=[]) (by rw[cH];exact N)
 grind
abbrev sv(x:Vu):Sv:=.c (.v x)
abbrev si(x:Int):Sv:=.c (.v (Y U x))
abbrev t2(x y:Int):Sv:=.t [.c (.v (Y U x)),.c (.v (Y U y))]
structure pz (sz:Nat) (env:m7) (a:db):Prop where
 lv:qe sz (qC [] env) a
 wf:∀p∈env,p.2.ok 0
def DD(env:m7):List aU->Option (List Sv)
 | []=>J []
 | x::r=>match ql env x,DD env r with
  | some s,some t=>J (s::t)
  | _,_=>Q
theorem N1{env:m7}:∀ {l:List aU} {b:List Sv},DD env l=J b->(l.map λx=>(ql env x).map (·.den []))=(b.map (·.den [])).map J
 | [],_,h=>by cases Ze h;rfl
 | x::r,b,h=>by
  unfold DD at h;split at h
  .next s t c d=>cases Ze h;simp[c,N1 d]
  .cases h
variable{n:Nat}{z:List Nat}{H:y6}{F:Vu}{E:Bool}{i D:Nat}{o:aN}{L:List Nat}{l:List nY}{K:aa}{I:Bool}
section
variable{C:Ctx}{s:j6}
theorem pk.px(b:pk C l K z H F I E w)(S:pz sz env a):fx (fb l) [] 0 w [] [] sz env a w:=by
 let⟨d,A,g⟩:=b;exact⟨S.lv,λe h=>(by cases h),S.wf,λi h=>absurd h (iE _),λi j h=>absurd h (iE _),λi _ h=>absurd h (iE _),af _,λ_ _ _=>rfl,A.env.fit,λk p=>U7 λo c e=>by have:=KO.lt A.env.ko c;omega⟩
theorem gm(m:Nat)(e:pW){Q:Wd->Prop}(S:pz sz env a)(h:∀w,sH w [] 0 sz m k ⟨[],env,0,e,True⟩=(u,⟨[],env',0,[],Q w⟩))(r:∀l K I w,pk C l K z H F I E w->Q w)(t:∀c,pz sz env' c->i9 C n s z H F E (G ((aB f).at c u) B)):i9 C n s z H F E (G ((aB f).at a k) B) :=
 X3 (R:=λg j p q=>g=z/\j=H/\p=F/\∃c,pz sz env' c/\q=G ((aB f).at c u) B)
  (λl K I w Stop d v=>iN m 0 e (d.px S) Z (h w) (r l K I w d) λc x M=>by
   let⟨y,A,P,_⟩:=d.more M.fit M.size (λk h=>M.old k h Zc) (bs:=[]) (λb R=>by cases R) λ_ _=>rfl
   exact v z H F _ x ⟨Z,Z,Z,c,⟨M.lv,M.wf⟩,Z⟩ y A P)
  λg j p q ⟨T,X,h3,c,c',h4⟩=>by subst T X h3 h4;exact t c c'
def PC(b:Nat):ou->ou
 | .v x=>.v x
 | .p _ o=>.v (Po (J (O b o Q)))
def Ew(b:Nat):Sv->Sv
 | .c x=>.c (PC b x)
 | s=>s
def wX(b:Nat):m7->m7
 | []=>[]
 | p::r=>(p.1,Ew b p.2)::wX b r
def plain:Sv->Bool
 | .c _=>true
 | s=>tQ 0 s
theorem Ir{b:Nat}:∀ {env:m7},(env.all λp=>plain p.2&&tQ 1 p.2)=true->qC [] (wX b env)=qC [(b,0)] env/\∀p∈wX b env,p.2.ok 0
 | [],_=>⟨Z,λp h=>by cases h⟩
 | (t,x)::r,h=>by
  simp only[List.all_cons,aC]at h;let⟨d,e⟩:=Ir (b:=b) h.2;have:(Ew b x).den []=x.den [(b,0)]/\(Ew b x).ok 0:=by
   match x,h.1 with
   | .c (.v y),_=>exact⟨Z,nQ⟩
   | .c (.p 0 o),_=>exact⟨by simp[Ew,PC,Sv.den,ou.den,ox],nQ⟩
   | .c (.p (i+1) o),h=>exact absurd (vo h.2) (by simp[Sv.ok,ou.ok])
   | .g l,h=>exact⟨(Sv.oK (ρ:=[]) (x:=.g l) [(b,0)] (vo (n:=0) h.1)).symm,vo (n:=0) (x:=.g l) h.1⟩
   | .t l,h=>exact⟨(Sv.oK (ρ:=[]) (x:=.t l) [(b,0)] (vo (n:=0) h.1)).symm,vo (n:=0) (x:=.t l) h.1⟩
  exact⟨by simp only[wX,qC,this.1,d],λp c=>by
   rcases ae.1 c with rfl|c
   .exact this.2
   .exact e p c⟩
theorem wF(m:Nat)(r:pW){Q:Wd->Prop}{m':Mem}(S:pz sz env a)(h:∀w,sH w [] 0 sz m k ⟨[],env,0,r,True⟩=(u,⟨m',env',1,[],Q w⟩))(T:∀l K I w,pk C l K z H F I E w->Q w)(X:∀b c t d,b∉z->b≠C.o.bo->(∀o x,rf m' 0 o=J x->c[o]?=J (x.den [(b,0)]))->pz sz (wX b env') d->i9 C n s (b::z) (H.set b (.cells c t (0,0))) F E (G ((aB f).at d u) B))(hp:(env'.all λp=>plain p.2&&tQ 1 p.2)=true:=by rfl):i9 C n s z H F E (G ((aB f).at a k) B) :=
 X3 (R:=λv y A P=>∃b c t d,b∉z/\b≠C.o.bo/\(∀o x,rf m' 0 o=J x->c[o]?=J (x.den [(b,0)]))/\pz sz (wX b env') d/\v=b::z/\y=H.set b (.cells c t (0,0))/\A=F/\P=G ((aB f).at d u) B)
  (λl K I w Stop g h'=>sq m 0 r (g.px S) Z (h w) (T l K I w g) λd R b M=>by
   let⟨c,t,j⟩:=(M.bl 0 (eP)).1;have j:R.heap[b]?=J (.cells c t (0,0)):=j;have d':w.heap.size<=b:=(M.own 0 (af _) (eP)).resolve_left Zc;have e':∀i∈z,i≠b:=λi q e=>by have:=(Zj (g.blk q)).1;omega
   let⟨S1,M1,s1,n1⟩:=g.more M.fit M.size (λk h=>M.old k h Zc) (bs:=[b]) (Hn:=H.set b (.cells c t (0,0))) (λb' f'=>by cases Zi f';exact⟨d',by rw[j,y6.nv]⟩) λi q=>y6.lj (e' i q);refine h' _ _ F _ R ⟨b,c,t,d,(n1 b Zc).1,(n1 b Zc).2,λo x hx=>?_,?_,Z,Z,Z,Z⟩ S1 M1 s1
   .simpa[aD,ox,j] using M.ld 0 o hx
   .let⟨q1,q2⟩:=Ir (b:=b) hp
    exact⟨by rw[q1];exact M.lv,q2⟩)
  λv y A P ⟨b,c,t,d,h1,h2,h3,h4,h5,h6,h7,h8⟩=>by subst h5 h6 h7 h8;exact X b c t d h1 h2 h3 h4
def He(m:Mem):Nat->Nat->Option (List Vu)
 | _,0=>J []
 | o,n+1=>match rf m 0 o,He m (o+1) n with
  | some (.v x),some r=>J (x::r)
  | _,_=>Q
theorem ER{m:Mem}{c:Array Vu}{ρ:oN}(b:∀o x,rf m 0 o=J x->c[o]?=J (x.den ρ)):∀ {n o:Nat} {l:List Vu},He m o n=J l->∀j v,l[j]?=J v->c[o+j]?=J v
 | 0,o,l,h,j,v,hj=>by cases Ze h;simp at hj
 | n+1,o,l,h,j,v,hj=>by
  unfold He at h;split at h
  .next x r d e =>
   cases Ze h
   cases j with
   | zero=>cases Ze hj;exact b o _ d
   | succ j=>have:=ER b e j v hj;rwa [aS,Nat.add_comm 1]at this
  .cases h
theorem oE(m:Nat)(S:pz sz env a)(h:∀w,sH w [] 0 sz m k ⟨[],env,0,[],True⟩=(u,⟨[],env',0,[],True⟩))(c:∀b,pz sz env' b->i9 C n s z H F E (G ((aB f).at b u) B)):i9 C n s z H F E (G ((aB f).at a k) B) :=
 gm m [] S h (λ_ _ _ _ _=>trivial) c
theorem gt{y:jx}{b:Bool}(S:pz sz env a)(h:ql env v=J (.c (.v (Bo b))))(c:b=true)(d:i9 C n s z H F E (G ((aB f).at a (.code t::k)) B)):i9 C n s z H F E (G ((aB f).at a (.code (.cond v t y)::k)) B) :=
 Ae (λl K I w Stop e g=>oF (e.px S) h c g) d
theorem gu{y:jx}{b:Bool}(S:pz sz env a)(h:ql env v=J (.c (.v (Bo b))))(c:b=false)(d:i9 C n s z H F E (G ((aB f).at a (.code y::k)) B)):i9 C n s z H F E (G ((aB f).at a (.code (.cond v t y)::k)) B) :=
 Ae (λl K I w Stop e g=>oC (e.px S) h c g) d
theorem gf{g:bF}{b:mR}{c:Array aU}{e:Array Ti}{d:List Sv}(S:pz sz env a)(h:ops[i]?=J o)(j:o.guard=Q)(p:o.op=.call { callee:=.value (.func g),args:=c,argTypes:=e })(q:V.funcs[g]?=J b)(r:(b.name== "runtime.NumGoroutine")=false)(v:b.body=J t)(x:DD env c.toList=J d)(y:i9 C n s z H F E (G (ay V g (d.map (·.den [])).toArray .normal) ((aB f).at a (.inRegion ops (i::L)::k)::B))):i9 C n s z H F E (G ((aB f).at a (.inRegion ops (i::L)::k)) B) :=
 Ae (λl K I w Stop A P=>by
  refine zb h (B7 j) (by show aX≠.early;decide) p q r v ?_
  rw[←ir (xs:=c.map a.eval),gM,Cn (A.px S) (N1 x)];exact P) y
theorem pz.put(S:pz sz env a)(v:Sv)(q:j=v.den [])(r:tQ 0 v=true)(b:cJ D sz=true)(h:qU D v env=J env'):pz sz env' (a.put (J D) j):=by
 have g:=Cg h;subst q;refine⟨⟨by simp[dK,S.lv.size],S.lv.defers,λp c=>?_⟩,λp c=>?_⟩
 .let⟨t,v⟩:=p;obtain⟨x,y,rfl⟩:=s7.1 c;have b:D<sz:=by simpa using b
  rcases g _ y with e|⟨d,A⟩
  .injection e with P R
   subst P R;simp[dK,S.lv.size,b]
  .simp only[dK];rw[cX (aA A)];exact S.lv.has _ (s7.2 ⟨x,d,Z⟩)
 .rcases g _ c with rfl|⟨d,_⟩
  .exact vo r
  .exact S.wf _ d
theorem pz.pC(S:pz sz env a)(d:List Nat)(c:vx 0 env d=J env'):pz sz env' a :=
 ⟨⟨S.lv.size,S.lv.defers,λp b=>by
  let⟨t,v⟩:=p;obtain⟨s,e,rfl⟩:=s7.1 b
  exact S.lv.has _ (s7.2 ⟨s,(yX c _ e).1,Z⟩)⟩,λp b=>S.wf p (yX c p b).1⟩
theorem gk(S:pz sz env a)(c:ops[i]?=J o)(d:o.dst=J D)(v:Sv)(e:j=v.den [])(g:tQ 0 v=true)(h:cJ D sz=true)(p:qU D v env=J env')(q:∀b,pz sz env' b->i9 C n s z H F E (G ((aB f).at b (.inRegion ops L::k)) B)) :
  i9 C n s z H F E (G (((aB f).at a (.inRegion ops (i::L)::k)).finish j) B):=by
 rw[bK,c];refine q _ ?_;show pz sz env' (a.put o.dst j);rw[d];exact S.put v e g h p
theorem Dm{op:Op}{v:Vu}(S:pz sz env a)(t:ops[i]?=J o)(x:o.guard=Q)(b:o.op=op)(y:qG V (λ_=>false) [] false op=true)(A:o.dst=J D)(P:cJ D sz=true)(R:qU D (.c (.v v)) env=J env')(T:∀l K I w d,pk C l K z H F I E w->∀c:aN,c.op=op->(Ex a.eval c).run V (w.at d)=.ok (.value v) (w.at d))(M:∀e,pz sz env' e->i9 C n s z H F E (G ((aB f).at e (.inRegion ops L::k)) B)) :
  i9 C n s z H F E (G ((aB f).at a (.inRegion ops (i::L)::k)) B) :=
 X3 (R:=λg j p q=>g=z/\j=H/\p=F/\q=G ((aB f).at (a.put o.dst v) (.inRegion ops L::k)) B)
  (λl K I w Stop r h d=>xm t (B7 x) (by show aX≠.early;decide) (by rw[b];exact y) (λd=>T l K I w d r o b) (h z H F _ w ⟨Z,Z,Z,Z⟩ r (.refl _ _ _) λi X=>.inl X) d)
  λg j p q ⟨h1,h2,h3,h4⟩=>by
   subst h1 h2 h3 h4;rw[A];exact M _ (S.put (.c (.v v)) Z Z P R)
theorem gz{b:mR}{c:Fm'}(d:pz sz env a)(e:V.funcs[f]?=J b)(g:b.results=S.toArray)(j:ga S.length 4=true)(h:uJ ⟨[],env,0,[],True⟩ S=J T)(p:i9 C n s z H F E (G (c.finish ((uZ T).den [])) B)):i9 C n s z H F E (G ((aB f).at a (.code .ret::k)) (c::B)) :=
 Ae (λl K I w Stop q r=>B3 (q.px d) e g j h r) p
theorem gn{c:mR}{g:Fm'}(b:List Sv)(h:V.funcs[f]?=J c)(j:c.body=J t)(q:c.ntmps=sz)(r:ga b.length sz=true)(x:b.all (tQ 0)=true)(y:∀a,pz sz (wR 0 b) a->i9 C n s z H F E (G ((aB f).at a [.code t]) (g::B))):i9 C n s z H F E (G (ay V f (b.map (·.den [])).toArray .normal) (g::B)):=by
 let⟨a,e,A⟩:=IU (env:=qC [] (wR 0 b)) (args:=(b.map (·.den [])).toArray) h j q (by simpa using r) (λp d=>by
  let⟨R,v⟩:=p;obtain⟨s,P,rfl⟩:=s7.1 d;let⟨_,S⟩:=yi P
  grind)
 rw[e];exact y a ⟨A,λp d=>vo (aV.1 x _ (cP (yi d).2))⟩
theorem pk.ck(b:pk C l K z H F I E w){j:Nat}{x:Vu}(h:(S8 C 0 0 F I E)[j]?=J x):sM w [] (O C.o.bo j Q) x:=by
 have:=b.xj (d:=w.drawn) h;exact⟨aL _ _ this,by simp,this⟩
theorem pk.rk(d:pk C l K z H F I E w){o:Nat}{c:List Vu}(g:b∈z)(p:H b=.cells h x (0,0))(q:∀j v,c[j]?=J v->h[o+j]?=J v):vO w [] b o c:=by
 have e:=d.blk g;rw[p]at e;exact⟨(Zj e).1,by simp,λj v r=>by simp[aD,e,q j v r]⟩
theorem pk.bk(c:pk C l K z H F I E w){o:Nat}(d:b∈z)(g:H b=.cells h x (0,0))(p:h[o]?=J j):sM w [] (O b o Q) j:=by
 have e:=c.blk d;rw[g]at e;exact⟨(Zj e).1,by simp,by simp[aD,e,p]⟩
end
section
variable{C:Ctx}
def sG(x:Int):M Int:=(E3 1 0 0 0).bind λr=>M.pure (if r.2≠0 then r.2 else x)
theorem FY(x:Int){d:Fm'}{B:List Fm'}{k:Int->Bool->j6}(g:∀e b,i9 C n (k e b) z H F b (G (d.finish (Y U e)) B)) :
  i9 C n ((sG x).then E k) z H F E (G (ay V 126 #[pO C.o,Y U x] .normal) (d::B)):=by
 unfold sG;rw[M.fc];refine gn [sv (pO C.o),si x] fH Z Z Z Z λy S=>oE 20 S (λ_=>rfl) λy S=>gf S Z Z Z cT Z Z Z<|xu 1 0 0 0 λh e b j=>?_;rw[M.oA];refine gk S Z Z (t2 h e) Z Z Z Z λy S=>oE 20 S (λ_=>rfl) λy S=>?_
 by_cases c:e=0
 .rw[nR (by simpa using c)];refine gu S Z (by simp[c])<|oE 20 S (λ_=>rfl) λy S=>gz S fH Z Z Z<|g x b
 .rw[nT c];refine gt S Z (by simp[c])<|oE 20 S (λ_=>rfl) λy S=>gz S fH Z Z Z<|g e b
end
section
variable{C:Ctx}
def yD(d a b c:Int):List (Int×Int)->Node⊕(Int×Bool×List (Int×Int))
 | []=>.inl (.call d a b c)
 | (x,e)::h=>if e=11 then yD d a b c h else .inr (e,e==3,h)
def J6(d a b c:Int):M Int:=λE h=>if E then .inr (3,true,h) else yD d a b c h
theorem WQ(d a b c:Int)(k:Int->Bool->j6):(J6 d a b c).then E k=(E3 d a b c).then E (λr g=>if r.2=11 then(J6 d a b c).then g k else k r.2 g):=by
 funext h
 cases E with
 | true=>rfl
 | false =>
  cases h with
  | nil=>rfl
  | cons r h =>
   let⟨x,e⟩:=r;unfold M.then J6 E3;simp only[aJ,if_false,yD]
   by_cases j:e=11
   .subst j;simp
   .simp[j]
noncomputable def Ts:List bm :=
 match Tryz.f115.body with
 | some (.seq _ (.block i (.loop c)))=>[.code c,.inLoop c,.inBlock i]
 | _=>[]
theorem XS(r a b c:Int)(t:Fm')(B:List Fm')(k:Int->Bool->j6)(A:Nat)(hb:A∈z)(hH:H A=.cells h x (0,0))(hq:∀j v,[dO .i64 a,Y U b,Y U c][j]?=J v->h[0+j]?=J v):∀n,(∀e d,i9 C n (k e d) z H F d (G (t.finish (Y U e)) B))->∀(E:Bool) g,pz 19 [(0,sv (pO C.o)),(1,si r),(5,sv (Po (J (O A 0 Q))))] g ->
  i9 C n ((J6 r a b c).then E k) z H F E (G ((base 115).at g Ts) (t::B)):=by
 intro n
 induction n using Nat.strongRecOn with
 | _ n ih =>
 intro R E g S;rw[WQ];refine gm 6 [[Y U a,Y U b,Y U c]] S (λ_=>rfl) (λl K I w St=>⟨nQ,St.rk hb hH hq⟩) λy S=>gf S Z Z Z cT Z Z Z<|(λ(P:∀p,p<=n->∀g e d,(e=11->p<n)->i9 C p (if e=11 then(J6 r a b c).then d k else k e d) z H F d (G (Frame.finish ((base 115).at y _) (.tuple #[Y U g,Y U e])) (t::B)))=>OZ r a b c _ _ _ (λT=>P n (af _) 0 3 true (λa'=>by omega)) (λT p M g e d c'=>P p (Nat.le_of_lt M) g e d λ_=>M) λT=>(P n (af _) 0 3 true (λa'=>by omega)).2 Z) λp X g e d b'=>gk S Z Z (t2 g e) Z Z Z Z λy S=>oE 12 S (λ_=>rfl) λy S=>?_
 by_cases q:e=11
 .rw[nT q];refine gu S Z (by simp[q])<|oE 3 S (λ_=>rfl) λy S=>ih p (b' q) (λe d=>(R e d).less X) d y (S.pC [0,1,5] Z)
 .rw[nR q];refine gt S Z (by simp[q])<|oE 9 S (λ_=>rfl) λy S=>gz S jn Z Z Z<|(R e d).less X
theorem Jm(d a b c:Int){h:Fm'}{B:List Fm'}{k:Int->Bool->j6}(j:∀e g,i9 C n (k e g) z H F g (G (h.finish (Y U e)) B)) :
  i9 C n ((J6 d a b c).then E k) z H F E (G (ay V 115 (wU C.o d a b c) .normal) (h::B)):=by
 refine gn [sv (pO C.o),si d,.g [.v (Y U a),.v (Y U b),.v (Y U c)]] jn Z Z Z Z λx S=>wF 7 [] S (λ_=>rfl) (λ_ _ _ _ _=>trivial) λp q t x r y v S=>XS d a b c h B k p (ao ..) (y6.nv) (ER (n:=3) (o:=0) v Z) n (λe g=>xB r (j e g)) E x (S.pC [0,1,5] Z)
end
section
variable{C:Ctx}
def xV(b c:Int):M (Int×Int):=(J6 17 c 0 b).bind λe=>if e≠0 then M.pure (0,e) else E3 18 0 b 0
theorem Vt(c d:Int){h:Fm'}{B:List Fm'}{k:Int×Int->Bool->j6}(j:∀x e b,i9 C n (k (x,e) b) z H F b (G (h.finish (.tuple #[Y U x,Y U e])) B)) :
  i9 C n ((xV c d).then E k) z H F E (G (ay V 116 #[pO C.o,Y U c,Y U d] .normal) (h::B)):=by
 unfold xV;rw[M.fc];refine gn [sv (pO C.o),si c,si d] jm Z Z Z Z λx S=>?_;refine oE 20 S (λ_=>rfl) λx S=>?_;refine gf S Z Z Z jn Z Z Z ?_;refine Jm 17 d 0 c λe b=>?_;refine gk S Z Z (si e) Z Z Z Z λx S=>?_;refine oE 20 S (λ_=>rfl) λx S=>?_
 by_cases g:e=0
 .rw[nR (by simpa using g)];refine gu S Z (by simp[g]) ?_;refine oE 20 S (λ_=>rfl) λx S=>?_;refine gf S Z Z Z cT Z Z Z ?_;refine xu 18 0 c 0 λv e b p=>?_;refine gk S Z Z (t2 v e) Z Z Z Z λx S=>?_;refine oE 20 S (λ_=>rfl) λx S=>?_;refine gz S jm Z Z Z ?_;exact j v e b
 .rw[nT g,M.oA];refine gt S Z (by simp[g]) ?_;refine oE 20 S (λ_=>rfl) λx S=>?_;refine gz S jm Z Z Z ?_;exact j 0 e b
end
structure Sl where
 blk:Option Nat
 cap:Nat
 xs:List Int
def Sl.val(s:Sl):dQ:=.slice (s.blk.map (O · 0 Q)) s.xs.length s.cap
def Sl.ok(s:Sl)(z:List Nat)(H:y6):Prop:=s.xs.length<=min 40 s.cap/\(s.xs=[]\/∃(b:Nat) (c:Array Vu) (t:Ti),s.blk=J b/\b∈z/\H b=.cells c t (0,0)/\∀(i:Nat) (x:Int),s.xs[i]?=J x->c[i]?=J (Y U x))
theorem W5{x:Int}(b:0<=x)(c:x<1000):IntKind.i64.wrap x=x:=by
 simp[IntKind.wrap,IntKind.bits,IntKind.signed];omega
section
variable{C:Ctx}
def rM(b c:Int):List Int->M Unit
 | []=>M.pure ()
 | p::ps=>(E3 b c p 0).bind λ_=>rM b c ps
def J7(b:Int)(c d:List Int):M (Int×Int):=(rM 10 b c).bind λ_=>(rM 11 b d).bind λ_=>E3 12 b 0 0
noncomputable def Lq(b:Bool):List bm :=
 match b,Tryz.f125.body with
 | false,some (.seq _ (.seq (.seq _ (.block i (.loop c))) r))=>[.code c,.inLoop c,.inBlock i,.code r]
 | true,J (.seq _ (.seq _ (.seq (.seq _ (.block i (.loop c))) r)))=>[.code c,.inLoop c,.inBlock i,.code r]
 | _,_=>[]
theorem Sl.ck{s:Sl}{i:Nat}{x:Int}(h:s.ok z H)(d:s.xs[i]?=J x):∃b,s.val=Sc (J (O b 0 Q)) s.xs.length s.cap/\∀ {l K I w} {F:Vu} {E:Bool},pk C l K z H F I E w->((True/\(0:Int)<=(i:Int)/\(i:Int)<(s.xs.length:Nat))/\sM w [] (O b (0+i*1) Q) (Y U x)):=by
 have e:=(bj.1 d).1;let⟨b,c,t,g,j,p,q⟩:=h.2.resolve_left (λh=>by rw[h]at e;simp at e);exact⟨b,by rw[Sl.val,g];rfl,λr=>⟨⟨nQ,by omega⟩,by simpa using r.bk j p (q i x d)⟩⟩
theorem MV(b:Bool)(g:Int)(c v:Sl)(x:c.ok z H)(A:Fm')(B:List Fm'){k:Bool->j6}(R:∀(h:Bool) a,pz 44 [(0,sv (pO C.o)),(1,si g),(3,sv v.val)] a->i9 C n (k h) z H F h (G ((aB 125).at a (Lq b).tail.tail.tail) (A::B))) :
  ∀(d:List Int) (i:Nat),(∀j,d[j]?=c.xs[i+j]?)->i+d.length=c.xs.length->∀(E:Bool) a,pz 44 [(0,sv (pO C.o)),(1,si g),(3,sv v.val),(14+12*b.toNat,sv c.val),(15+12*b.toNat,si c.xs.length),(16+12*b.toNat,si i)] a ->
  i9 C n ((rM (10+b.toNat) g d).then E λ_=>k) z H F E (G ((aB 125).at a (Lq b)) (A::B)):=by
 intro d;have b':c.xs.length<=40:=by have:=x.1;omega
 induction d with
 | nil =>
  intro i t r E a S;have r:i=c.xs.length:=by simpa using r
  cases b
  all_goals
   refine oE 5 S (λ_=>rfl) λa S=>gu S Z (by simp;omega)<|oE 1 S (λ_=>rfl) λa S=>R E a (S.pC [0,1,3] Z)
 | cons p d T =>
  intro i t r E a S;simp only[bQ]at r;let⟨q,P,X⟩:=Sl.ck (C:=C) x (i:=i) (x:=p) (by have:=t 0;simpa using this.symm);unfold rM;rw[M.fc];cases b
  all_goals
   refine oE 5 S (λ_=>rfl) λa S=>gt S Z (by simp;omega) ?_;have S':=S;rw[P]at S;refine gm 20 [[Y U p]] S (λ_=>rfl) (λl K I w St=>X St) λa S=>gf S Z Z Z cT Z Z Z<|xu _ g p 0 λy e h hg=>gk S Z Z (t2 y e) Z Z Z Z λa S=>oE 7 S (λ_=>rfl) λa S=>?_;rw[←P,W5 Za Za,show((i:Int)+1)=((i+1:Nat):Int) from by simp]at S;refine T (i+1) (λj=>by have:=t (j+1);simp at this;rw[this];congr 1;omega) Za h a ?_
   first|exact S.pC [0,1,3,14,15,16] Z|exact S.pC [0,1,3,26,27,28] Z
theorem KB(d:Int)(g b:Sl)(j:g.ok z H)(p:b.ok z H){h:Fm'}{B:List Fm'}{k:Int×Int->Bool->j6}(q:∀x e c,i9 C n (k (x,e) c) z H F c (G (h.finish (.tuple #[Y U x,Y U e])) B)) :
  i9 C n ((J7 d g.xs b.xs).then E k) z H F E (G (ay V 125 #[pO C.o,Y U d,g.val,b.val] .normal) (h::B)):=by
 unfold J7;rw[M.fc];refine gn [sv (pO C.o),si d,sv g.val,sv b.val] jh Z Z Z Z λa S=>?_;refine oE 14 S (λ_=>rfl) λa S=>?_;refine MV false d g b j h B (λc a S=>?_) g.xs 0 Zc Zc E a (S.pC [0,1,3,14,15,16] Z);rw[M.fc];refine oE 9 S (λ_=>rfl) λa S=>?_;refine MV true d b b p h B (λc a S=>?_) b.xs 0 Zc Zc c a (S.pC [0,1,3,26,27,28] Z);refine oE 20 S (λ_=>rfl) λa S=>?_;refine gf S Z Z Z cT Z Z Z ?_;refine xu 12 d 0 0 λy e c r=>?_;refine gk S Z Z (t2 y e) Z Z Z Z λa S=>?_;refine oE 20 S (λ_=>rfl) λa S=>?_;refine gz S jh Z Z Z ?_;exact q y e c
end
def J5(b:List Int)(i j:Nat):List Int:=(b.set i (b.getD j 0)).set j (b.getD i 0)
def N4:Nat->List Int->Nat->Nat->List Int
 | 0,xs,_,_=>xs
 | f+1,xs,i,n =>
  if n<=2*i+1 then xs else
  let j:=if 2*i+2<n/\xs.getD (2*i+2) 0<xs.getD (2*i+1) 0 then 2*i+2 else 2*i+1
  if xs.getD j 0<xs.getD i 0 then N4 f (J5 xs i j) j n else xs
def pQ(b:List Int):List Int:=(N4 b.length (J5 b 0 (b.length - 1)) 0 (b.length - 1)).take (b.length - 1)
def Bp(c:Array Vu)(b:List Int):Prop:=∀(i:Nat) (x:Int),b[i]?=J x->c[i]?=J (Y U x)
def LW:Prop:=∀(v:Wd) (p:cC) (b h:Nat) (c:Array Vu) (t:Ti) (d:List Int),p.spot=Q->p.block≠b->d≠[]->d.length<=40->d.length<=h->v.cell? p=J (Sc (J (O b 0 Q)) d.length h)->v.frozen? p=false->v.heap[b]?=J (.cells c t (0,0))->Bp c d ->
 aG V 127 #[.iface 190 (Po (J p))] v λe g=>(∃x,e=.returned x)/\∃j,Bp j (pQ d)/\(pQ d).length=d.length - 1/\v.heap.size<=g.heap.size/\g.heap[b]?=J (.cells j t (0,0))/\g.heap[p.block]?=(v.setCell p (Sc (J (O b 0 Q)) (d.length - 1:Nat) h)).heap[p.block]? /\
  ∀k,k<v.heap.size->k≠b->k≠p.block->g.heap[k]?=v.heap[k]?
section
variable{C:Ctx}{s:j6}
theorem At.Ia{l:List nY}{K:aa}{I:Bool}{w:Wd}(A:At C l K z H F I E w){w':Wd}(R:b≠C.o.bo)(t:b∈z)(S:js w' C.bk C.bf C.bs C.bd K)(hF:Fit (fb l) w')(b':w.heap.size<=w'.heap.size)(p:∀k,k<w.heap.size->k≠b->k≠C.o.bo->w'.heap[k]?=w.heap[k]?){v:Obj}(T:w'.heap[b]?=J v)(y:w'.heap[C.o.bo]?=J (.cells (S8 C 0 0 j I E) x (0,0))):At C l K z ((H.set b v).set C.o.bo (.cells (S8 C 0 0 j I E) x (0,0))) j I E w':=by
 have G:∀i∈z,i<w.heap.size:=λi d=>(Zj (A.has i d)).1;let⟨b0,b1,b2,b3,M⟩:=A.own.ap b t;refine⟨⟨S,A.env.oT.same (p 0 A.env.oT.lt (aA M) (aA (A.env.ap _ A.mem).2.2.2.2)),A.env.inv,hF,λo g=>?_,A.env.ap⟩,A.mem,A.own,λi d=>?_,⟨x,y6.nv⟩,A.top,A.pX⟩
 .by_cases e:o.bo=C.o.bo
  .let⟨c,P,h,q,X,h3⟩:=A.env.ko o g;let⟨t2,a'⟩:=A.blk;rw[e,a']at h;obtain⟨rfl,rfl,_⟩:=Obj.cells.inj (Ze h);exact⟨S8 C 0 0 j I E,x,by rw[e];exact y,q,X,h3⟩
  .let⟨c,P,h,q⟩:=A.env.ko o g;exact⟨c,P,by rw[p _ (KO.lt A.env.ko g) (A.pX b t R o g) e];exact h,q⟩
 .by_cases e:i=C.o.bo
  .subst e;rw[y6.nv];exact y
  .rw[y6.lj e]
   by_cases r:i=b
   .subst r;rw[y6.nv];exact T
   .rw[y6.lj r,p i (G i d) r e];exact A.has i d
def Fr(c:Option Nat)(z:List Nat)(H:y6)(F:Vu)(d:List Int):Prop:=∃b:Sl,b.blk=c/\F=b.val/\b.xs=d/\b.ok z H
theorem Yt(n':LW){xs:List Int}(hF:Fr A z H F xs)(hx:xs≠[]){fr:Fm'}{B:List Fm'}(hn:∀r M x,Fr A z r M (pQ xs)->(∀i∈z,J i≠A->r i=H i)->i9 C n s z r M E (G (fr.finish x) B)) :
  i9 C n s z H F E (G (ay V 127 #[.iface 190 (Po (J (O C.o.bo 10 Q)))] .normal) (fr::B)):=by
 obtain⟨j,rfl,rfl,rfl,i'⟩:=hF;let⟨b,c,t,h1,y,h3,h4⟩:=i'.2.resolve_left hx;have r':=i'.1;have hv:j.val=Sc (J (O b 0 Q)) j.xs.length j.cap:=by simp[Sl.val,h1]
 refine X3 (R:=λj' r M g'=>∃x q,j'=z/\r=H.set b (.cells q t (0,0))/\Bp q (pQ j.xs)/\(pQ j.xs).length=j.xs.length - 1/\M=Sc (J (O b 0 Q)) (j.xs.length - 1:Nat) j.cap/\g'=G (fr.finish x) B) (λl K I w Stop St h d=>?_) ?_
 .let⟨r,p,X⟩:=St;let⟨z1,z2,z3⟩:=p.env.zero;have e':b≠C.o.bo:=(X b y).1;have o':w.heap[b]?=J (.cells c t (0,0)):=by rw[p.has b (ah _ y),(X b y).2,h3]
  have k':fb l b=0:=U7 λo ho=>p.pX b (ah _ y) e' o ho;let⟨t2,l'⟩:=p.blk
  refine(xC xa (sft:=fb l) (w0:=w.at d) Zd ⟨p.env.fit.soft,p.env.fit.clear⟩ false (Q:=λx S=>∃v q,Lk (fb l) v (w.at d)/\Bp q (pQ j.xs)/\(pQ j.xs).length=j.xs.length - 1/\v.heap.size<=S.heap.size/\S.heap[b]?=J (.cells q t (0,0)) /\
    S.heap[C.o.bo]?=(v.setCell (O C.o.bo 10 Q) (Sc (J (O b 0 Q)) (j.xs.length - 1:Nat) j.cap)).heap[C.o.bo]?/\∀k,k<v.heap.size->k≠b->k≠C.o.bo->S.heap[k]?=v.heap[k]?)
   (λv P=>(n' v (O C.o.bo 10 Q) b j.cap c t j.xs Z (aA e') hx Za Za ?_ ?_ ?_ h4).mono λe S he=>?_) fr B).keep.then ?_
  .rw[P.cell,←hv];exact p.cell Z
  .have:=P.heap C.o.bo;rw[show(w.at d).heap=w.heap from Z,l',Q7 p.mem]at this;simp[bY,this,fz]
  .rw[P.heap,show(w.at d).heap=w.heap from Z,o',k'];rfl
  .grind
  .rintro g R ⟨⟨x,S,rfl,hl',v,q,P,q1,q2,q3,q4,q5,q6⟩,hkp⟩;have s':v.heap.size=w.heap.size:=P.size;have hk:∀k,k<w.heap.size->k≠b->k≠C.o.bo->R.heap[k]?=w.heap[k]?:=λk hk e1 e2=>C7 (w:=w.at d) hkp P hl' (q6 k Za e1 e2);have p':R.heap[b]?=J (.cells q t (0,0)):=by
    have:=hl'.heap b;rw[q4,k']at this
    cases e:R.heap[b]? with
    | none=>grind
    | some o =>
     rw[e,aF]at this;have hs:Obj.oc o:=Oj (Ze this).symm nQ;rw[yl hs]at this;exact this.symm
   have q':R.heap[C.o.bo]?=J (.cells (S8 C 0 0 (Sc (J (O b 0 Q)) (j.xs.length - 1:Nat) j.cap) I E) t2 (0,0)):=by
    have e2:v.heap[C.o.bo]?=J (.cells (S8 C 0 0 j.val I E) t2 (0,3)):=by
     rw[P.heap,show(w.at d).heap=w.heap from Z,l',Q7 p.mem];rfl
    rw[heap_setCell,nT Z,e2]at q5;have e3:=hl'.heap C.o.bo;rw[q5,Q7 p.mem]at e3;let⟨c2,t',h'⟩:=hl'.soft C.o.bo (by rw[Q7 p.mem];omega);rw[h']at e3 ⊢;simp only[aF,fz,bz,Obj.cells.injEq]at e3;let⟨e4,e5,_⟩:=e3;rw[←e4,←e5];rfl
   let⟨a0,a1,a2,a3,a4⟩:=p.env.ap _ p.mem;let⟨b0,b1,b2,b3,b4⟩:=p.own.ap b (ah _ y);have hs:w.heap.size<=R.heap.size:=by grind
   have A':=p.Ia e' (ah _ y) (p.env.rep.same hs λk f' h=>hk k f' (by grind) (by grind)) hl'.fit hs hk p' q';refine h z _ _ _ R ⟨x,q,Z,Z,q1,q2,Z,Z⟩ ⟨_,A',λi T=>⟨(X i T).1,?_⟩⟩ ⟨hs,λk f' h0 _ _ _=>hk k f' (λe=>h0 (by grind)) λe=>h0 (by grind)⟩ (λi T=>.inl T) R.drawn;rw[y6.lj (X i T).1]
   by_cases e:i=b
   .subst e;rw[y6.nv,y6.nv]
   .rw[y6.lj e,y6.lj e];exact(X i T).2
 .rintro j' r M g' ⟨x,q,rfl,rfl,q1,q2,rfl,rfl⟩;refine hn _ _ x ⟨⟨J b,j.cap,pQ j.xs⟩,h1.symm,by simp[Sl.val,q2],Z,by grind,.inr ⟨b,q,t,Z,y,y6.nv,q1⟩⟩ λi T he=>?_;rw[y6.lj λe=>he (by rw[e,h1])]
end
end Go.Proofs.YtcgabodkegcpgaaGreatDoor
namespace Go.Proofs.YtcgabodkegcpgaaGreatDoor
variable{a b c d:Nat}{e f g:Wd}{h i:Array Vu}{j k l m n:Vu}{o:Fm'}{p:List Nat}{q r:aN}{s:List Int}{t u:jx}{v w:aU}{x y:Ti}{z:mR}{A:Option Nat}{B C:Int}{D:Bool}{E F:aa}{H:List Vu}{I:Mem}{K:Array Bool}{L:Array aU}{N:Array Ti}{P:db}{R:List nY}{S:List eC}{T:List qc}{W:Vu->Wd->Prop}
theorem yh(a:List Int)(i j:Nat):(J5 a i j).length=a.length:=by simp[J5]
theorem Km:∀(f:Nat) (a:List Int) (i n:Nat),(N4 f a i n).length=a.length:=by
 intro f
 induction f with
 | zero=>intro a i n;rfl
 | succ f b =>
  intro a i n;unfold N4;dsimp only;split
  .rfl
  .split<;>split<;>first|rfl|rw[b,yh]
theorem AV(a:List Int):(pQ a).length=a.length - 1:=by
 unfold pQ;rw[jF,Km,yh];omega
end Go.Proofs.YtcgabodkegcpgaaGreatDoor
namespace Go.Proofs.YtcgabodkegcpgaaGreatDoor
open Go.RowKit
variable{a b c d:Nat}{e f g:Wd}{h i:Array Vu}{j k l m n:Vu}{o:Fm'}{p:List Nat}{q r:aN}{s:List Int}{t u:jx}{v w:aU}{x y:Ti}{z:mR}{A:Option Nat}{B C:Int}{D:Bool}{E F:aa}{H:List Vu}{I:Mem}{K:Array Bool}{L:Array aU}{N:Array Ti}{P:db}{R:List nY}{S:List eC}{T:List qc}{W:Vu->Wd->Prop}
attribute [local go_sem ↓] Go.wp_at_zero Go.wp_at_succ
theorem Gx{a:Option cC}(n b:Nat):aG V 147 #[.slice a n b] e λc d=>c=.returned (Y U n)/\d=e:=by
 go_enter Tryz.func147,Tryz.ntmps147
 go_wp2_with fail
 go_ret
 exact⟨Z,Z⟩
theorem Pe(w:Wd)(b n a i j:Nat)(x y:Int)(d:i<n)(f:j<n)(g:w.cell? (O b i Q)=J (Y U x))(h:w.cell? (O b j Q)=J (Y U y)):aG V 148 #[Sc (J (O b 0 Q)) n a,Y U i,Y U j] w λe c=>e=.returned (Bo (decide (x<y)))/\∃q,c=w.drewN q:=by
 have k:(0:Int)<=(i:Int):=by omega
 have l:(i:Int)<(n:Int):=by omega
 have m:(0:Int)<=(j:Int):=by omega
 have o:(j:Int)<(n:Int):=by omega
 go_enter Tryz.func148,Tryz.ntmps148
 go_wp2_with fail
 go_quiet (fail)
 go_wp2_with fail
 go_ret
 exact⟨Z,_,Z⟩
theorem Ww(w:Wd)(b n f i j:Nat)(x y:Int)(l:i<n)(m:j<n)(g:w.cell? (O b i Q)=J (Y U x))(a:w.cell? (O b j Q)=J (Y U y))(c:∀k,w.frozen? (O b k Q)=false):aG V 149 #[Sc (J (O b 0 Q)) n f,Y U i,Y U j] w λe h=>(∃v,e=.returned v)/\∃q,h=((w.setCell (O b i Q) (Y U y)).setCell (O b j Q) (Y U x)).drewN q:=by
 have o:(0:Int)<=(i:Int):=by omega
 have p:(i:Int)<(n:Int):=by omega
 have r:(0:Int)<=(j:Int):=by omega
 have s:(j:Int)<(n:Int):=by omega
 have t:=c i;have u:=c j
 go_enter Tryz.func149,Tryz.ntmps149
 by_cases d:i=j
 .subst d;obtain rfl:x=y:=by rw[g]at a;cases a;rfl
  go_region_with (fail)
  all_goals(go_end0;exact⟨⟨_,Z⟩,1,Z⟩)
 .have z:¬j=i:=λe=>d e.symm
  go_region_with (fail)
  all_goals(go_end0;exact⟨⟨_,Z⟩,1,Z⟩)
theorem RQ(p:cC)(c:p.spot=Q)(b n a:Nat)(h:n+1<=a)(i:p.block≠b)(j:e.cell? p=J (Sc (J (O b 0 Q)) (n+1) a))(k:e.frozen? p=false)(l:e.cell? (O b n Q)=J (Y U B))(m:n<1000):aG V 150 #[Po (J p)] e λd f=>(∃v,d=.returned v)/\f=e.setCell p (Sc (J (O b 0 Q)) n a):=by
 let⟨o,q,g⟩:=p;obtain rfl:g=none:=c;have r:(0:Int)<=(n:Int):=by omega
 have s:(n:Int)<((n+1:Nat):Int):=by omega
 have t:(n:Int)<=(a:Int):=by omega
 have u:n<=a:=by omega
 go_enter Tryz.func150,Tryz.ntmps150
 go_wp2_with fail
 go_ret
 exact⟨⟨_,Z⟩,Z⟩
theorem d0I(w:Wd)(a:cC):(kY 324 190 (Po (J a)) "Pop").run V w=.ok (150,Po (J a)) w:=by kernel_rfl
theorem c9Q(w:Wd)(a:cC):(kY 324 190 (Po (J a)) "Push").run V w=.ok (151,Po (J a)) w:=by kernel_rfl
theorem c9P(w:Wd)(a:cC):(kY 324 190 (Po (J a)) "Len").run V w=(loadVar 139 a >>= λv=>pure (147,v)).run V w:=by kernel_rfl
theorem Fy(w:Wd)(p b:Nat){a:Option cC}(n c:Nat)(d:w.cell? (O p b Q)=J (.slice a n c)):(kY 324 190 (Po (J (O p b Q))) "Len").run V w=.ok (147,.slice a n c) w:=by
 rw[c9P];have e:V.underlying 139=J (.slice 3):=by kernel_rfl
 simp[go_sem,d,e]
theorem Uj(w:Wd)(a:cC):(kY 324 190 (Po (J a)) "Less").run V w=(loadVar 139 a >>= λv=>pure (148,v)).run V w:=by kernel_rfl
theorem yp(w:Wd)(p c:Nat){d:Option cC}(e:w.cell? (O p c Q)=J (.slice d a b)):(kY 324 190 (Po (J (O p c Q))) "Less").run V w=.ok (148,.slice d a b) w:=by
 rw[Uj];have f:V.underlying 139=J (.slice 3):=by kernel_rfl
 simp[go_sem,e,f]
theorem WS(w:Wd)(a:cC):(kY 324 190 (Po (J a)) "Swap").run V w=(loadVar 139 a >>= λv=>pure (149,v)).run V w:=by kernel_rfl
theorem yk(w:Wd)(p c:Nat){d:Option cC}(e:w.cell? (O p c Q)=J (.slice d a b)):(kY 324 190 (Po (J (O p c Q))) "Swap").run V w=.ok (149,.slice d a b) w:=by
 rw[WS];have f:V.underlying 139=J (.slice 3):=by kernel_rfl
 simp[go_sem,e,f]
structure Sh (w w':Wd) (b:Nat) (t:Ti) (xs:List Int):Prop where
 size:w'.heap.size=w.heap.size
 xw:∀k,k≠b->w'.heap[k]?=w.heap[k]?
 row:∃c,w'.heap[b]?=J (.cells c t (0,0))/\Bp c xs
variable{w w':Wd}{b:Nat}{t:Ti}{xs:List Int}
theorem Sh.cell(h:Sh w w' b t xs){i:Nat}(a:i<xs.length):w'.cell? (O b i Q)=J (Y U (xs.getD i 0)):=by
 let⟨c,d,e⟩:=h.row;have:=e i (xs.getD i 0) (by rw[cK,br a];rfl);simp only[aD,d];simpa using this
theorem Sh.frozen(h:Sh w w' b t xs)(i:Nat):w'.frozen? (O b i Q)=false:=by
 let⟨c,a,d⟩:=h.row;simp[bY,a]
theorem Sh.qx(h:Sh w w' b t xs)(d:a≠b):w'.cell? (O a c Q)=w.cell? (O a c Q):=by
 simp only[aD,h.xw a d]
theorem Sh.drewN(h:Sh w w' b t xs)(q:Nat):Sh w (w'.drewN q) b t xs:=⟨h.size,h.xw,h.row⟩
theorem Sh.swap(h:Sh w w' b t xs){i j:Nat}(m:i<xs.length)(l:j<xs.length):Sh w ((w'.setCell (O b i Q) (Y U (xs.getD j 0))).setCell (O b j Q) (Y U (xs.getD i 0))) b t (J5 xs i j):=by
 let⟨c,n,d⟩:=h.row;refine⟨by simp[cQ];exact h.size,λk f=>?_,(c.setIfInBounds i (Y U (xs.getD j 0))).setIfInBounds j (Y U (xs.getD i 0)),?_,λk x a=>?_⟩
 .rw[heap_setCell,nR λe=>f e.symm,heap_setCell,nR λe=>f e.symm];exact h.xw k f
 .rw[heap_setCell,nT Z,heap_setCell,nT Z,n];rfl
 .have o:i<c.size:=(Zj (d i (xs.getD i 0) (by rw[cK,br m];rfl))).1;have p:j<c.size:=(Zj (d j (xs.getD j 0) (by rw[cK,br l];rfl))).1;unfold J5 at a;rw[nM]at a;rw[fy];split at a
  .rename_i e;subst e;rw[nT Z,nT (by simpa using p)];simp only[List.length_set]at a;rw[nT l]at a;rw[Ze a]
  .rename_i e;rw[nR e,fy];rw[nM]at a;split at a
   .rename_i g;subst g;rw[nT Z,nT o];rw[Ze a]
   .rename_i g;rw[nR g];exact d k x a
structure Dn (w w':Wd) (p po b cap:Nat) (t:Ti) (ys:List Int) (m:Nat):Prop where
 sh:Sh w w' b t ys
 len:ys.length=m
 qx:w'.cell? (O p po Q)=J (Sc (J (O b 0 Q)) m cap)
theorem vh{w w':Wd}{b:Nat}{t:Ti}{m:Nat}(D:Dn w w' a c b d t s m){f:Int}(i j:Nat)(h:C=i)(k:f=j)(l:i<m)(n:j<m){B:Bool}(o:decide (s.getD i 0<s.getD j 0)=B):aG V 148 #[Sc (J (O b 0 Q)) m d,Y U C,Y U f] w' λe g=>e=.returned (Bo B)/\Dn w g a c b d t s m:=by
 subst h k o;have p:=D.len;refine(Pe w' b m d i j _ _ l n (D.sh.cell Za) (D.sh.cell Za)).mono ?_;rintro e g ⟨rfl,q,rfl⟩;exact⟨Z,D.sh.drewN q,D.len,D.qx⟩
theorem Et{w w':Wd}{b:Nat}{t:Ti}{m:Nat}(f:a≠b)(D:Dn w w' a c b d t s m)(i j:Nat)(k:B=i)(l:C=j)(n:i<m)(o:j<m):aG V 149 #[Sc (J (O b 0 Q)) m d,Y U B,Y U C] w' λe g=>(∃v,e=.returned v)/\Dn w g a c b d t (J5 s i j) m:=by
 subst k l;have r:=D.len;refine(Ww w' b m d i j _ _ n o (D.sh.cell Za) (D.sh.cell Za) D.sh.frozen).mono ?_;rintro e g ⟨p,q,rfl⟩;have h:=(D.sh.swap (i:=i) (j:=j) Za Za).drewN q;refine⟨p,h,by rw[yh];exact D.len,?_⟩;rw[h.qx f,←D.sh.qx f];exact D.qx
theorem QD(w:Wd)(p j b o n:Nat)(t:Ti)(xs:List Int)(a':p≠b)(P:xs.length<=40)(C:w.cell? (O p j Q)=J (Sc (J (O b 0 Q)) xs.length o))(D:n<=xs.length)(E:Sh w w b t xs) :
  aG V 130 #[.iface 190 (Po (J (O p j Q))),Y U 0,Y U n] w λe w'=>(∃v,e=.returned v)/\Sh w w' b t (N4 xs.length xs 0 n):=by
 go_enter Tryz.func130,Tryz.ntmps130
 go_wp2_with fail
 go_loopw [7] (λs w'=>∃(i f:Nat) (c:List Int),s=Y U i/\i<=40/\Sh w w' b t c/\c.length=xs.length/\N4 f c i n=N4 xs.length xs 0 n/\xs.length<=i+f) λs _=>41 - (bM s).toNat
 case atStart=>exact⟨0,xs.length,xs,Z,by omega,E,Z,Z,by omega⟩
 case round =>
  obtain⟨i,f,c,rfl,R,x,F,k,H⟩:=hrel;have u:IntKind.i64.wrap (2*(i:Int))=2*(i:Int):=W5 Za Za;have m:IntKind.i64.wrap (2*(i:Int)+1)=2*(i:Int)+1:=W5 Za Za;have G:IntKind.i64.wrap (2*(i:Int)+1+1)=2*(i:Int)+2:=W5 Za Za
  by_cases B:n<=2*i+1
  .have g1:(n:Int)<=2*(i:Int)+1:=by omega
   have q:ar (Sh w wr b t (N4 xs.length xs 0 n)):=by
    rw[←k]
    cases f with
    | zero=>exact x
    | succ f=>unfold N4;rw[nT B];exact x
   clear k H F x D E C
   go_wp2_with fail
   go_ret
   exact⟨⟨_,Z⟩,q.out⟩
  .obtain⟨f,rfl⟩:∃g,f=g+1:=⟨f - 1,by omega⟩;have S:ar (Dn w wr p j b o t c xs.length):=⟨x,F,by rw[x.qx a'];exact C⟩;obtain⟨a,r⟩:∃a,a=N4 xs.length xs 0 n:=⟨_,Z⟩;rw[←r]at k;unfold N4 at k;rw[nR B]at k;dsimp only at k;have g1:¬((n:Int)<=2*(i:Int)+1):=by omega
   have g0:¬(2*(i:Int)+1<0):=by omega
   have l0:=yp wr p j S.out.qx;have d:ar (n<=xs.length/\xs.length<=40/\i<=40/\¬n<=2*i+1/\xs.length<=i+(f+1)):=⟨D,P,R,B,H⟩
   by_cases I:2*i+2<n
   .have g2:2*(i:Int)+2<(n:Int):=by omega
    by_cases K:c.getD (2*i+2) 0<c.getD (2*i+1) 0
    .have M:ar (decide (c.getD (2*i+2) 0<c.getD (2*i+1) 0)=true):=by unfold ar;simpa using K
     rw[nT (⟨I,K⟩:2*i+2<n/\c.getD (2*i+2) 0<c.getD (2*i+1) 0)]at k;have L:2*i+2<c.length:=by omega
     by_cases l:c.getD (2*i+2) 0<c.getD i 0
     .have y:ar (decide (c.getD (2*i+2) 0<c.getD i 0)=true):=by unfold ar;simpa using l
      rw[nT l]at k;have q:ar (N4 f (J5 c i (2*i+2)) (2*i+2) n=N4 xs.length xs 0 n):=k.trans r;have z:ar True:=trivial;clear r k H F x D E C B I R P l L K
      go_wp2_with (first|(clear z;go_at_call 148;refine(vh S.out (2*i+2) (2*i+1) Za Za (by have:=d.out;omega) (by have:=d.out;omega) (B:=true) M.out).mono ?_;rintro e u ⟨rfl,D1⟩;have l1:=yp u p j D1.qx;have T:ar (Dn w u p j b o t c xs.length):=D1;clear D1 l0;have W:ar True:=trivial)|(clear W;go_at_call 148;refine(vh T.out (2*i+2) i Za Z (by have:=d.out;omega) (by have:=d.out;omega) (B:=true) y.out).mono ?_;rintro e m ⟨rfl,D2⟩;have X:=yk m p j D2.qx;have A:ar (Dn w m p j b o t c xs.length):=D2;clear D2)|(go_at_call 149;refine(Et a' A.out i (2*i+2) Z Za (by have:=d.out;omega) (by have:=d.out;omega)).mono ?_;rintro e G ⟨⟨v3,rfl⟩,D3⟩;have N:ar (Dn w G p j b o t (J5 c i (2*i+2)) xs.length):=D3;clear D3))
      exact⟨⟨2*i+2,f,J5 c i (2*i+2),by simp,by have:=d.out;omega,N.out.sh,N.out.len,q.out,by have:=d.out;omega⟩,by have:=d.out;simp[bM];omega⟩
     .have y:ar (decide (c.getD (2*i+2) 0<c.getD i 0)=false):=by unfold ar;simpa using l
      rw[nR l]at k;have q:ar (c=N4 xs.length xs 0 n):=k.trans r;have z:ar True:=trivial;clear r k H F x D E C B I R P l L K
      go_wp2_with (first|(clear z;go_at_call 148;refine(vh S.out (2*i+2) (2*i+1) Za Za (by have:=d.out;omega) (by have:=d.out;omega) (B:=true) M.out).mono ?_;rintro e u ⟨rfl,D1⟩;have l1:=yp u p j D1.qx;have T:ar (Dn w u p j b o t c xs.length):=D1;clear D1 l0;have W:ar True:=trivial)|(clear W;go_at_call 148;refine(vh T.out (2*i+2) i Za Z (by have:=d.out;omega) (by have:=d.out;omega) (B:=false) y.out).mono ?_;rintro e m ⟨rfl,D2⟩;have X:=yk m p j D2.qx;have A:ar (Dn w m p j b o t c xs.length):=D2;clear D2))
      go_ret
      exact⟨⟨_,Z⟩,by rw[←q.out];exact A.out.sh⟩
    .have M:ar (decide (c.getD (2*i+2) 0<c.getD (2*i+1) 0)=false):=by unfold ar;simpa using K
     rw[nR (λh=>K h.2:¬(2*i+2<n/\c.getD (2*i+2) 0<c.getD (2*i+1) 0))]at k;have L:2*i+1<c.length:=by omega
     by_cases l:c.getD (2*i+1) 0<c.getD i 0
     .have y:ar (decide (c.getD (2*i+1) 0<c.getD i 0)=true):=by unfold ar;simpa using l
      rw[nT l]at k;have q:ar (N4 f (J5 c i (2*i+1)) (2*i+1) n=N4 xs.length xs 0 n):=k.trans r;have z:ar True:=trivial;clear r k H F x D E C B I R P l L K
      go_wp2_with (first|(clear z;go_at_call 148;refine(vh S.out (2*i+2) (2*i+1) Za Za (by have:=d.out;omega) (by have:=d.out;omega) (B:=false) M.out).mono ?_;rintro e u ⟨rfl,D1⟩;have l1:=yp u p j D1.qx;have T:ar (Dn w u p j b o t c xs.length):=D1;clear D1 l0;have W:ar True:=trivial)|(clear W;go_at_call 148;refine(vh T.out (2*i+1) i Za Z (by have:=d.out;omega) (by have:=d.out;omega) (B:=true) y.out).mono ?_;rintro e m ⟨rfl,D2⟩;have X:=yk m p j D2.qx;have A:ar (Dn w m p j b o t c xs.length):=D2;clear D2)|(go_at_call 149;refine(Et a' A.out i (2*i+1) Z Za (by have:=d.out;omega) (by have:=d.out;omega)).mono ?_;rintro e G ⟨⟨v3,rfl⟩,D3⟩;have N:ar (Dn w G p j b o t (J5 c i (2*i+1)) xs.length):=D3;clear D3))
      exact⟨⟨2*i+1,f,J5 c i (2*i+1),by simp,by have:=d.out;omega,N.out.sh,N.out.len,q.out,by have:=d.out;omega⟩,by have:=d.out;simp[bM];omega⟩
     .have y:ar (decide (c.getD (2*i+1) 0<c.getD i 0)=false):=by unfold ar;simpa using l
      rw[nR l]at k;have q:ar (c=N4 xs.length xs 0 n):=k.trans r;have z:ar True:=trivial;clear r k H F x D E C B I R P l L K
      go_wp2_with (first|(clear z;go_at_call 148;refine(vh S.out (2*i+2) (2*i+1) Za Za (by have:=d.out;omega) (by have:=d.out;omega) (B:=false) M.out).mono ?_;rintro e u ⟨rfl,D1⟩;have l1:=yp u p j D1.qx;have T:ar (Dn w u p j b o t c xs.length):=D1;clear D1 l0;have W:ar True:=trivial)|(clear W;go_at_call 148;refine(vh T.out (2*i+1) i Za Z (by have:=d.out;omega) (by have:=d.out;omega) (B:=false) y.out).mono ?_;rintro e m ⟨rfl,D2⟩;have X:=yk m p j D2.qx;have A:ar (Dn w m p j b o t c xs.length):=D2;clear D2))
      go_ret
      exact⟨⟨_,Z⟩,by rw[←q.out];exact A.out.sh⟩
   .have g2:¬(2*(i:Int)+2<(n:Int)):=by omega
    rw[nR (λh=>I h.1:¬(2*i+2<n/\c.getD (2*i+2) 0<c.getD (2*i+1) 0))]at k;have L:2*i+1<c.length:=by omega
    by_cases l:c.getD (2*i+1) 0<c.getD i 0
    .have y:ar (decide (c.getD (2*i+1) 0<c.getD i 0)=true):=by unfold ar;simpa using l
     rw[nT l]at k;have q:ar (N4 f (J5 c i (2*i+1)) (2*i+1) n=N4 xs.length xs 0 n):=k.trans r;have z:ar True:=trivial;clear r k H F x D E C B I R P l L
     go_wp2_with (first|(clear z;go_at_call 148;refine(vh S.out (2*i+1) i Za Z (by have:=d.out;omega) (by have:=d.out;omega) (B:=true) y.out).mono ?_;rintro e m ⟨rfl,D2⟩;have X:=yk m p j D2.qx;have A:ar (Dn w m p j b o t c xs.length):=D2;clear D2)|(go_at_call 149;refine(Et a' A.out i (2*i+1) Z Za (by have:=d.out;omega) (by have:=d.out;omega)).mono ?_;rintro e G ⟨⟨v3,rfl⟩,D3⟩;have N:ar (Dn w G p j b o t (J5 c i (2*i+1)) xs.length):=D3;clear D3))
     exact⟨⟨2*i+1,f,J5 c i (2*i+1),by simp,by have:=d.out;omega,N.out.sh,N.out.len,q.out,by have:=d.out;omega⟩,by have:=d.out;simp[bM];omega⟩
    .have y:ar (decide (c.getD (2*i+1) 0<c.getD i 0)=false):=by unfold ar;simpa using l
     rw[nR l]at k;have q:ar (c=N4 xs.length xs 0 n):=k.trans r;have z:ar True:=trivial;clear r k H F x D E C B I R P l L
     go_wp2_with (first|(clear z;go_at_call 148;refine(vh S.out (2*i+1) i Za Z (by have:=d.out;omega) (by have:=d.out;omega) (B:=false) y.out).mono ?_;rintro e m ⟨rfl,D2⟩;have X:=yk m p j D2.qx;have A:ar (Dn w m p j b o t c xs.length):=D2;clear D2))
     go_ret
     exact⟨⟨_,Z⟩,by rw[←q.out];exact A.out.sh⟩
theorem Sh.trans{w:Wd}{b:Nat}{t:Ti}{xs:List Int}(h:Sh w e b t xs)(k:Sh e f b t s):Sh w f b t s :=
 ⟨k.size.trans h.size,λi a=>(k.xw i a).trans (h.xw i a),k.row⟩
theorem Sh.FQ{w w':Wd}{b:Nat}{t:Ti}{xs:List Int}(h:Sh w w' b t xs)(d:a≠b):w'.frozen? (O a c Q)=w.frozen? (O a c Q):=by
 simp only[bY,h.xw a d]
theorem Sh.base{w w':Wd}{b:Nat}{t:Ti}{xs:List Int}(h:Sh w w' b t xs):Sh w' w' b t xs:=⟨Z,λ_ _=>rfl,h.row⟩
theorem ZH{w w':Wd}{b:Nat}{t:Ti}{m:Nat}(f:a≠b)(D:Dn w w' a c b d t s m)(j:m<=40)(n:Nat)(k:B=n)(l:n<=m) :
  aG V 130 #[.iface 190 (Po (J (O a c Q))),Y U 0,Y U B] w' λe g=>(∃v,e=.returned v)/\Dn w g a c b d t (N4 m s 0 n) m:=by
 subst k;have o:=D.len;subst o;refine(QD w' a c b d n t s f j D.qx l D.sh.base).mono ?_;rintro e g ⟨p,h⟩;have i:=D.sh.trans h;exact⟨p,i,Km _ _ _ _,by rw[i.qx f,←D.sh.qx f];exact D.qx⟩
theorem SG:LW:=by
 intro v p b j c t xs C r s D E u y z A;let⟨a,d,F⟩:=p;obtain rfl:F=none:=C;have g:a≠b:=r;obtain⟨m,n⟩:∃m,xs.length=m+1:=⟨xs.length - 1,by have:xs.length≠0:=λh=>s (eI.1 h);omega⟩;have D0:ar (Dn v v a d b j t xs (m+1)):=⟨⟨Z,λ_ _=>rfl,c,z,A⟩,n,by rw[u,n]⟩;have o:ar (m+1<=40/\m+1<=j/\v.frozen? (O a d Q)=false):=⟨by omega,by omega,y⟩;have H:ar (xs.length=m+1):=n;have G:=Fy v a d _ _ D0.out.qx;have s0:=yk v a d D0.out.qx;have M:m<1000:=by omega
 have X:=d0I;clear z A u y D E s r n
 go_enter Tryz.func127,Tryz.ntmps127
 go_wp2_with (first|(go_at_call 147;refine(Gx _ _).mono ?_;rintro e w0 ⟨rfl,rfl⟩)|(go_at_call 149;refine(Et g D0.out 0 m Z Za Za Za).mono ?_;rintro e I ⟨⟨v1,rfl⟩,D1⟩;have K:ar (Dn _ I a d b j t (J5 xs 0 m) (m+1)):=D1;clear D1)|(go_at_call 130;refine(ZH g K.out o.out.1 m Za Za).mono ?_;rintro e L ⟨⟨v2,rfl⟩,f⟩;have l:ar (Dn _ L a d b j t (N4 (m+1) (J5 xs 0 m) 0 m) (m+1)):=f;clear f)|(go_at_call 150;refine(RQ (O a d Q) Z b m j o.out.2.1 g l.out.qx (by rw[l.out.sh.FQ g];exact o.out.2.2) (l.out.sh.cell (by have:=l.out.len;omega)) (by have:=o.out.1;omega)).mono ?_;rintro e w3 ⟨⟨v3,rfl⟩,rfl⟩))
 go_ret
 have f:=l.out;have B:=H.out;let⟨N,P,R⟩:=f.sh.row;have S:pQ xs=(N4 (m+1) (J5 xs 0 m) 0 m).take m:=by unfold pQ;rw[B];rfl
 refine⟨⟨_,Z⟩,N,λi x q=>R i x ?_,AV xs,?_,?_,?_,λk _ T W=>?_⟩
 .rw[S,eV]at q;split at q
  .exact q
  .cases q
 .simp[cQ];exact fJ f.sh.size.symm
 .rw[heap_setCell,nR g];exact P
 .rw[heap_setCell,nT Z,heap_setCell,nT Z,f.sh.xw a g,B];rfl
 .rw[heap_setCell,nR λe=>W e.symm];exact f.sh.xw k T
theorem Xh{w w':Wd}{b:Nat}{t:Ti}{m:Nat}(D:Dn w w' a c b d t s m){f:Int}(i j:Nat)(g:C=i)(h:f=j)(k:i<m)(l:j<m){B:Bool}(n:decide (s.getD i 0<s.getD j 0)=B):aG V 148 #[Sc (J (O b 0 Q)) m d,Y U C,Y U f] w' λe o=>e=.returned (Bo B)/\∃q,o=w'.drewN q:=by
 subst g h n;have p:=D.len;exact Pe w' b m d i j _ _ k l (D.sh.cell Za) (D.sh.cell Za)
theorem WT{w w':Wd}{b:Nat}{t:Ti}{m:Nat}(D:Dn w w' a c b d t s m) :
  aG V 129 #[.iface 190 (Po (J (O a c Q))),Y U 0] w' λe f=>(∃v,e=.returned v)/\∃q,f=w'.drewN q:=by
 have h:ar (Dn w w' a c b d t s m):=D;clear D
 go_enter Tryz.func129,Tryz.ntmps129
 go_wp2_with fail
 go_loopw [1] (λg f=>g=Y U 0/\f=w') λg _=>0
 case atStart=>exact⟨Z,Z⟩
 case round =>
  obtain⟨rfl,rfl⟩:=hrel
  go_wp2_with fail
  go_end0
  exact⟨⟨_,Z⟩,0,Z⟩
theorem Xo{w w':Wd}{b:Nat}{t:Ti}{m:Nat}(D:Dn w w' a c b d t s m)(j:Nat)(g:j+1<m)(h:m<=40)(i:s.getD (j / 2) 0<=s.getD (j+1) 0) :
  aG V 129 #[.iface 190 (Po (J (O a c Q))),Y U ((j:Int)+1)] w' λe f=>(∃v,e=.returned v)/\∃q,f=w'.drewN q:=by
 have n:ar (Dn w w' a c b d t s m):=D;have p:=yp w' a c D.qx;have o:ar (decide (s.getD (j+1) 0<s.getD (j / 2) 0)=false):=by unfold ar;simpa using i
 have r:j<1000:=by omega
 have u:Int.tdiv (j:Int) 2=((j / 2:Nat):Int):=by simp[Int.tdiv]
 have x:¬((j:Int) / 2=(j:Int)+1):=by omega
 have k:ar (j+1<m/\m<=40):=⟨g,h⟩;clear D i g h
 go_enter Tryz.func129,Tryz.ntmps129
 go_wp2_with fail
 go_loopw [1] (λl f=>l=Y U ((j:Int)+1)/\f=w') λl _=>0
 case atStart=>exact⟨Z,Z⟩
 case round =>
  obtain⟨rfl,rfl⟩:=hrel
  go_wp2_with (go_at_call 148;refine(Xh n.out (j+1) (j / 2) Za Za (by have:=k.out;omega) (by have:=k.out;omega) (B:=false) o.out).mono ?_;rintro e y ⟨rfl,q,rfl⟩)
  go_end0
  exact⟨⟨_,Z⟩,q,Z⟩
theorem Fw:(V.info? 3).map (λi=>(i.zero,i.size,i.bytes))=J (J (Y U 0),1,8):=by kernel_rfl
theorem c1t(a:Nat)(u:Vu)(c:[j][a]?=J u):(e.alloc (.cells #[j] 3)).cell? (((O e.heap.size 0 Q):cC).add a)=J u:=by
 have d:(e.alloc (.cells #[j] 3)).heap[e.heap.size]?=J (.cells #[j] 3):=by show(e.heap.push _)[e.heap.size]?=_;simp
 rw[eO,aE];simp only[aD,d];simpa using c
theorem MK:∀u∈[dO .i64 B],u.oneCell'=true:=by simp[kE]
def I9(f:Nat->Int)(k:Nat):List Int:=((aM k).filter λj=>f j != -1).map Int.ofNat
theorem DZ(f:Nat->Int)(k:Nat):I9 f (k+1)=I9 f k++(if f k != -1 then [(k:Int)] else []):=by
 unfold I9;rw[List.range_succ,nt,List.map_append]
 congr 1
 by_cases h:f k=-1<;>simp[h]
theorem X4(f:Nat->Int)(k:Nat):(I9 f k).length<=k:=by
 unfold I9;rw[bC];exact Zh (lT _ _) Zc
def vF(xs:List Int):List dQ:=xs.map λx=>Y U x
structure pK (w w':Wd) (V:Vu) (xs:List Int):Prop where
 oX:bG w.heap.size w w'
 own:w'.ownsRow w.heap.size 3 1 V xs.length (vF xs)
theorem pK.later{w:Wd}{xs:List Int}(h:pK w e j xs)(b:bG e.heap.size e f):pK w f j xs:=by
 refine⟨⟨b.os.trans h.oX.os,b.tape.trans h.oX.tape,b.output.trans h.oX.output,Zh h.oX.size b.size,λk a=>(b.block k (Zg a h.oX.size)).trans (h.oX.block k a)⟩,h.own.1,?_⟩;rcases h.own.2 with h|⟨g,d,i,l,m,c,n⟩
 .exact .inl h
 .exact .inr ⟨g,d,i,l,m,by rw[b.block g (Zj c).1];exact c,n⟩
theorem OL{w W:Wd}{xs:List Int}(L:pK w W j xs)(C:xs.length<=40)(k:Int){m:Array aN}{n:List aN}{a:ig}{Q:Exit->ig->Wd->Prop}(r:q.guard=G')(s x:aU)(u:q.op=.call { callee:=.builtin .append,args:=#[s,x],argTypes:=#[103,103] })(v:a.eval s=j)(H:Nat)(y:W.heap.size=H)(z:a.eval x=Sc (J (O H 0 G')) 1 1)(h:∀o p,pK w p o (xs++[k])->gN V m Q n (a.put q.dst o) p) :
  gN V m Q (q::n) a (W.alloc (.cells #[Y U k] 3)):=by
 subst y;have d:=Fw
 cases e:V.info? 3 with
 | none=>rw[e]at d;cases d
 | some i =>
  rw[e]at d;simp only[aF,bz,cU]at d;have b0:bG W.heap.size W (W.alloc (.cells #[Y U k] 3)):=(bD _ _).alloc (af _) _;have c:=L.later b0;refine kX _ r s x 103 u w.heap.size 3 i _ 1 8 Tryz.underlying103 e d.1 d.2.1 d.2.2 (by rfl) Za j xs.length (vF xs) v c.own (O W.heap.size 0 G') 1 1 [Y U k] z Z (c1t) (MK) Za (by simp[gO];omega) Za (by have:=L.oX.size;simp;omega) (W.heap.size+1) Zc ?_;intro g D A B f ox E;refine h _ A ⟨⟨f.os.trans c.oX.os,f.tape.trans c.oX.tape,f.output.trans c.oX.output,Zh c.oX.size f.size,λl e=>?_⟩,by simpa[vF] using B⟩;rw[f.block l (by have:=c.oX.size;omega) λh=>by have:=(c.own.lt l h.symm).1;omega];exact c.oX.block l e
theorem Fo(w w':Wd)(h:bG w.heap.size w w'):pK w w' (Sc Q 0 0) []:=⟨h,dh _ _ _ _⟩
theorem c1F(w:Wd)(u v x y z A B C D E F H:Vu)(f:Nat->Int)(b0 d g h:Bool) :
  aG V 121 #[.agg #[u,v,x,Y U (f 0),Bo b0,Y U (f 1),Bo d,Y U (f 2),Bo g,Y U (f 3),Bo h,y,z,A,B,C,D,E,F,H]] w λe w'=>∃a,e=.returned a/\pK w w' a (I9 f 4):=by
 go_enter lH,Tryz.ntmps121
 go_wp2_with fail
 go_loopw [3,8] (λs i w'=>∃k:Nat,k<=4/\i=Y U k/\pK w w' s (I9 f k)) λ_ i _=>4 - (bM i).toNat
 case atStart=>exact⟨0,by omega,Z,Fo _ _ ((bD _ _).alloc (af _) _)⟩
 case round =>
  obtain⟨k,o,rfl,p⟩:=hrel;have j:ar (pK w wr u3 (I9 f k)):=p;clear p
  by_cases l:k=4
  .subst l
   go_wp2
   go_ret
   exact⟨_,Z,j.out⟩
  obtain⟨m,ix⟩:∃m,∀w,(gp 77 (.agg #[Y U (f 0),Bo b0,Y U (f 1),Bo d,Y U (f 2),Bo g,Y U (f 3),Bo h]) (Y U k)).run V w=.ok (.agg #[Y U (f k),Bo m]) w:=by
   cases k,(Za:k<4) using ep
   .exact⟨b0,λ_=>by kernel_rfl⟩
   .exact⟨d,λ_=>by kernel_rfl⟩
   .exact⟨g,λ_=>by kernel_rfl⟩
   .exact⟨h,λ_=>by kernel_rfl⟩
  have N:(k:Int)<4:=by omega
  have c:=DZ f k;cases q:(f k != -1)
  .rw[q,nR Zb,cH]at c;have n:ar (I9 f (k+1)=I9 f k):=c;clear c l o
   go_wp2
   exact⟨⟨k+1,by omega,by go_num,by rw[n.out];exact j.out.later ((bD _ _).alloc (af _) _)⟩,by simp[bM];omega⟩
  .rw[q,nT Z]at c;have n:ar (I9 f (k+1)=I9 f k++[(k:Int)]):=c;clear c l o
   go_wp2_with (refine OL (w:=w) (W:=wr.alloc (.cells #[Y U (f k),Bo m] 76)) (xs:=I9 f k) (j.out.later ((bD _ _).alloc (af _) _)) (by have:=X4 f k;omega) k Z _ _ Z Z (wr.heap.size+1) Zc Z ?_;intro I K r;have L:ar (pK w K I (I9 f k++[(k:Int)])):=r;clear r)
   exact⟨⟨k+1,by omega,by go_num,by rw[n.out];exact L.out⟩,by simp[bM];omega⟩
theorem VR(w:Wd)(u v x y z A B C D E F H:Vu)(f:Nat->Int)(b0 d g h:Bool) :
  aG V 123 #[.agg #[u,v,x,y,z,A,B,C,D,E,F,Y U (f 0),Bo b0,Y U (f 1),Bo d,Y U (f 2),Bo g,Y U (f 3),Bo h,H]] w λe w'=>∃a,e=.returned a/\pK w w' a (I9 f 4):=by
 go_enter lG,Tryz.ntmps123
 go_wp2_with fail
 go_loopw [3,8] (λs i w'=>∃k:Nat,k<=4/\i=Y U k/\pK w w' s (I9 f k)) λ_ i _=>4 - (bM i).toNat
 case atStart=>exact⟨0,by omega,Z,Fo _ _ ((bD _ _).alloc (af _) _)⟩
 case round =>
  obtain⟨k,o,rfl,p⟩:=hrel;have j:ar (pK w wr u3 (I9 f k)):=p;clear p
  by_cases l:k=4
  .subst l
   go_wp2
   go_ret
   exact⟨_,Z,j.out⟩
  obtain⟨m,ix⟩:∃m,∀w,(gp 80 (.agg #[Y U (f 0),Bo b0,Y U (f 1),Bo d,Y U (f 2),Bo g,Y U (f 3),Bo h]) (Y U k)).run V w=.ok (.agg #[Y U (f k),Bo m]) w:=by
   cases k,(Za:k<4) using ep
   .exact⟨b0,λ_=>by kernel_rfl⟩
   .exact⟨d,λ_=>by kernel_rfl⟩
   .exact⟨g,λ_=>by kernel_rfl⟩
   .exact⟨h,λ_=>by kernel_rfl⟩
  have N:(k:Int)<4:=by omega
  have c:=DZ f k;cases q:(f k != -1)
  .rw[q,nR Zb,cH]at c;have n:ar (I9 f (k+1)=I9 f k):=c;clear c l o
   go_wp2
   exact⟨⟨k+1,by omega,by go_num,by rw[n.out];exact j.out.later ((bD _ _).alloc (af _) _)⟩,by simp[bM];omega⟩
  .rw[q,nT Z]at c;have n:ar (I9 f (k+1)=I9 f k++[(k:Int)]):=c;clear c l o
   go_wp2_with (refine OL (w:=w) (W:=wr.alloc (.cells #[Y U (f k),Bo m] 79)) (xs:=I9 f k) (j.out.later ((bD _ _).alloc (af _) _)) (by have:=X4 f k;omega) k Z _ _ Z Z (wr.heap.size+1) Zc Z ?_;intro I K r;have L:ar (pK w K I (I9 f k++[(k:Int)])):=r;clear r)
   exact⟨⟨k+1,by omega,by go_num,by rw[n.out];exact L.out⟩,by simp[bM];omega⟩
theorem Tv{w:Wd}{V:Vu}{xs:List Int}(L:pK w e V xs)(A:xs.length<=40)(k:Int){n:Array aN}{a:ig}{K:ig->Wd->Prop}{Q:Exit->ig->Wd->Prop}{E:Prop}(o:q.guard=G')(s x:aU)(p:q.op=.call { callee:=.builtin .append,args:=#[s,x],argTypes:=#[139,139] })(r:a.eval s=V)(H:Nat)(u:e.heap[H]?=J (.cells #[Y U k] 3))(v:a.eval x=Sc (J (O H 0 G')) 1 1)(h:∀g j l,pK w l (Sc (J (O g 0 G')) (xs.length+1) j) (xs++[k])->e.grownBy l V.ownBlock->(V.ownBlock=J g\/g=e.heap.size)->K (a.put q.dst (Sc (J (O g 0 G')) (xs.length+1) j)) l) :
  if bR q (fA n a.tmps)=true then Oper.wp J' q a e K Q else E:=by
 have c:=Fw
 cases f:J'.info? 3 with
 | none=>rw[f]at c;cases c
 | some i =>
  rw[f]at c;simp only[aF,bz,cU]at c;refine step_append_lies _ o s x 139 p w.heap.size 3 i _ 1 8 Zd f c.1 c.2.1 c.2.2 (by rfl) Za V xs.length (vF xs) r L.own (O H 0 G') 1 1 [Y U k] v Z (World.news_of_block u) (MK) Za (by simp[gO];omega) Za L.oX.size e.heap.size Z ?_;intro g j y z d ox B;refine h g j y ⟨⟨d.os.trans L.oX.os,d.tape.trans L.oX.tape,d.output.trans L.oX.output,Zh L.oX.size d.size,λm f=>?_⟩,by simpa[vF] using z⟩ d ox;rw[d.block m (by have:=L.oX.size;omega) λh=>by have:=(L.own.lt m h.symm).1;omega];exact L.oX.block m f
theorem Ke(u:Wd)(o:Obj):(u.alloc o).heap[u.heap.size]?=J o:=by show(u.heap.push _)[u.heap.size]?=_;simp
theorem As(u:Wd)(o:Obj):bG u.heap.size u (u.alloc o):=(bD u.heap.size u).alloc (af _) o
theorem Gh(u:Wd){o:Obj}:bG u.heap.size u (u.drew.alloc o):=⟨Z,Z,Z,(As u o).size,(As u o).block⟩
theorem MJ{w':Wd}(d:w'.cell? (O a 0 Q)=J j)(h:w'.frozen? (O a 0 Q)=false)(i:j.ownBlock≠J a)(b:bG w'.heap.size w' e)(k:e.grownBy f j.ownBlock):f.cell? (O a 0 Q)=J j/\f.frozen? (O a 0 Q)=false:=by
 have g:a<w'.heap.size:=aL _ _ d;have c:f.heap[a]?=w'.heap[a]?:=(k.block a (Zg g b.size) λc=>i c.symm).trans (b.block a g);simp only[aD,bY,c]at *;exact⟨d,h⟩
theorem c5v{w:Wd}{f:Nat}(L:pK w e (Sc (J (O c 0 Q)) d f) s)(l:w.heap.size<=a)(m:e.cell? (O a 0 Q)=J j)(n:e.frozen? (O a 0 Q)=false)(k:c≠a) :
  ∃i,pK w (e.setCell (O a 0 Q) (Sc (J (O c 0 Q)) d f)) i s/\(e.setCell (O a 0 Q) (Sc (J (O c 0 Q)) d f)).cell? (O a 0 Q)=J i/\(e.setCell (O a 0 Q) (Sc (J (O c 0 Q)) d f)).frozen? (O a 0 Q)=false/\i.ownBlock≠J a:=by
 refine⟨_,⟨L.oX.setCell l _,L.own.1,?_⟩,World.cell?_setCell_same _ _ _ m,?_,λg=>k (Ze g)⟩
 .rcases L.own.2 with h|⟨o,p,q,g,r,u,v⟩
  .exact .inl h
  .obtain⟨rfl⟩:c=o:=by injection g with x;injection x with y;injection y
   exact .inr ⟨c,p,q,g,r,by rw[heap_setCell,nR (aA k)];exact u,v⟩
 .rw[World.frozen?_setCell];exact n
theorem Xj{w w':Wd}{xs:List Int}(x:Int)(L:pK w w' j xs)(n:xs.length<=40)(z:w.heap.size<=a)(d:w'.cell? (O a 0 Q)=J j)(p:w'.frozen? (O a 0 Q)=false)(f:j.ownBlock≠J a) :
  aG V 151 #[Po (J (O a 0 Q)),.iface 3 (Y U x)] w' λe k=>(∃v,e=.returned v)/\∃l,pK w k l (xs++[x])/\k.cell? (O a 0 Q)=J l/\k.frozen? (O a 0 Q)=false/\l.ownBlock≠J a:=by
 obtain⟨H,q⟩:∃i,V.info? 3=J i/\i.zero=J (Y U 0)/\i.size=1/\i.bytes=8:=by
  have c:=Fw
  cases r:V.info? 3 with
  | none=>rw[r]at c;cases c
  | some i =>
   rw[r]at c;simp only[aF,bz,cU]at c;exact⟨i,Z,c.1,c.2.1,c.2.2⟩
 have I:ar _:=q;have s:ar (pK w w' j xs/\xs.length<=40):=⟨L,n⟩;have K:∀u,(Instr.typeAssert (.iface 3 (Y U x)) 20 3 false).run V u=.ok (Y U x) u:=λ_=>by kernel_rfl
 have N:∀o,(w'.alloc o).cell? (O a 0 Q)=J j:=λo=>b6U (As w' o) (aL _ _ d) d;have P:w'.heap.size≠a:=World.new_ne w' (O a 0 Q) d;clear L n q
 go_enter Tryz.func151,Tryz.ntmps151
 go_region_law (refine Tv (w:=w) (V:=j) (xs:=xs) (by exact s.out.1.later (by first|exact Gh w'|exact below_ad w' _)) s.out.2 x Z (.tmp 7) (.tmp 10) Z (by rfl) w'.heap.size (by exact Ke w' _) (by rfl) ?_;intro g A B y m ox;have C:ar (pK w B (Sc (J (O g 0 Q)) (xs.length+1) A) (xs++[x])):=y;have D:ar (j.ownBlock=J g\/w'.heap.size<=g):=ox.imp id (λh=>by rw[h];simp);have E:=(MJ d p f (by first|exact Gh w'|exact below_ad w' _|exact As w' _) m).1;have F:=(MJ d p f (by first|exact Gh w'|exact below_ad w' _|exact As w' _) m).2;clear ox m;clear y)
 all_goals(go_end0;exact⟨⟨_,Z⟩,c5v C.out z E F (λe=>by subst e;rcases D.out with h|h;exact f h;have:=aL _ _ d;exact absurd this (Nat.not_lt.2 h))⟩)
theorem Mv{w:Wd}(L:pK w e j s)(h:e.cell? (O a 0 Q)=J j)(k:s≠[]):∃g c,j=Sc (J (O g 0 Q)) s.length c/\Dn e e a 0 g c 3 s s.length:=by
 obtain⟨p,⟨_,l⟩|⟨g,c,m,rfl,q,n,r,u,v,o⟩⟩:=L.own
 .exact absurd (eI.1 l) k
 .refine⟨g,c,Z,⟨Z,λ_ _=>rfl,m,n,λi x d=>?_⟩,Z,h⟩;have y:i<s.length:=(bj.1 d).1;have f:(vF s)[i]?=J (Y U x):=by simp[vF,d]
  rw[←o,eV,nT Za]at f;simpa using f
theorem LJ{w:Wd}(L:pK w e j s)(q:Nat):pK w (e.drewN q) j s:=⟨⟨L.oX.os,L.oX.tape,L.oX.output,L.oX.size,L.oX.block⟩,L.own⟩
theorem QW{xs:List Int}(c:xs.length=a+1)(d:∀y∈xs,y<=B):(xs++[B]).getD (a / 2) 0<=(xs++[B]).getD (a+1) 0:=by
 rw[cK,cK,mQ Za,lN Za,c,Nat.sub_self,br (show a / 2<xs.length by omega)];exact d _ (List.getElem_mem _)
theorem WX{w w':Wd}{xs:List Int}(x:Int)(L:pK w w' j xs)(m:xs.length<40)(C:w.heap.size<=a)(p:w'.cell? (O a 0 Q)=J j)(r:w'.frozen? (O a 0 Q)=false)(s:j.ownBlock≠J a)(u:∀y∈xs,y<=x) :
  aG V 118 #[.iface 190 (Po (J (O a 0 Q))),.iface 3 (Y U x)] w' λe c=>(∃v,e=.returned v)/\∃h,pK w c h (xs++[x])/\c.cell? (O a 0 Q)=J h/\c.frozen? (O a 0 Q)=false/\h.ownBlock≠J a:=by
 have z:=Xj x L (Nat.le_of_lt m) C p r s;have K:=c9Q;have N:xs.length<1000:=by omega
 have A:ar (xs.length<40/\∀y∈xs,y<=x):=⟨m,u⟩;clear L m p r s u;have l:(xs++[x]).length=xs.length+1:=by simp
 cases n:xs.length with
 | zero =>
  rw[n]at l
  go_enter Tryz.func118,Tryz.ntmps118
  go_wp2_with (first|(go_at_call 151;refine z.mono ?_;rintro e c ⟨⟨D,rfl⟩,h,L2,c2,f2,o2⟩;obtain⟨g,d,rfl,f⟩:=Mv L2 c2 Zc;rw[l]at f;have E:=Fy c a 0 _ _ f.qx;have i:ar (pK w c (Sc (J (O g 0 Q)) (xs++[x]).length d) (xs++[x])/\c.cell? (O a 0 Q)=J (Sc (J (O g 0 Q)) (xs++[x]).length d)/\c.frozen? (O a 0 Q)=false/\(dm (J (O g 0 Q)) (xs++[x]).length d).ownBlock≠J a):=⟨L2,c2,f2,o2⟩;have o:ar (Dn c c a 0 g d 3 (xs++[x]) (0+1)):=f;clear L2 c2 f2 o2 f)|(go_at_call 147;refine(Gx _ _).mono ?_;rintro e F ⟨rfl,rfl⟩)|(go_at_call 129;refine(WT o.out).mono ?_;rintro e H ⟨⟨I,rfl⟩,q,rfl⟩))
  go_end0
  exact⟨⟨_,Z⟩,_,LJ i.out.1 q,i.out.2⟩
 | succ k =>
  rw[n]at l;have B:ar (xs.length=k+1/\k+1<40):=⟨n,by have:=A.out.1;omega⟩;have P:k<1000:=by omega
  go_enter Tryz.func118,Tryz.ntmps118
  go_wp2_with (first|(go_at_call 151;refine z.mono ?_;rintro e c ⟨⟨D,rfl⟩,h,L2,c2,f2,o2⟩;obtain⟨g,d,rfl,f⟩:=Mv L2 c2 Zc;rw[l]at f;have E:=Fy c a 0 _ _ f.qx;have i:ar (pK w c (Sc (J (O g 0 Q)) (xs++[x]).length d) (xs++[x])/\c.cell? (O a 0 Q)=J (Sc (J (O g 0 Q)) (xs++[x]).length d)/\c.frozen? (O a 0 Q)=false/\(dm (J (O g 0 Q)) (xs++[x]).length d).ownBlock≠J a):=⟨L2,c2,f2,o2⟩;have o:ar (Dn c c a 0 g d 3 (xs++[x]) (k+1+1)):=f;clear L2 c2 f2 o2 f)|(go_at_call 147;refine(Gx _ _).mono ?_;rintro e F ⟨rfl,rfl⟩)|(go_at_call 129;refine(Xo o.out k Za (by have:=B.out;omega) (QW B.out.1 A.out.2)).mono ?_;rintro e H ⟨⟨I,rfl⟩,q,rfl⟩))
  go_end0
  exact⟨⟨_,Z⟩,_,LJ i.out.1 q,i.out.2⟩
def E9(K:aa)(k:Nat):List Int:=((aM k).filter λj=>K.F j 0==0).map Int.ofNat
theorem Hh(K:aa)(k:Nat):E9 K (k+1)=E9 K k++(if K.F k 0==0 then [(k:Int)] else []):=by
 unfold E9;rw[List.range_succ,nt,List.map_append]
 congr 1
 by_cases h:K.F k 0=0<;>simp[h]
theorem EB(K:aa)(k:Nat):(E9 K k).length<=k:=by
 unfold E9;rw[bC];exact Zh (lT _ _) Zc
theorem UA(K:aa)(k:Nat):∀y∈E9 K k,y<=(k:Int):=by
 intro y a;unfold E9 at a;obtain⟨j,c,rfl⟩:=dn.1 a;have:=eX.1 (dD.1 c).1;show(j:Int)<=k;omega
theorem c3J(K:aa)(o m:Nat):(cut (U8 K) o m).toArray.all (·.oneCell')=true :=
 all_oneCell_toArray λv a=>by unfold cut at a;obtain⟨j,_,rfl⟩:=dn.1 a;rfl
structure x8 (w':Wd) (fp:Nat) (V:Vu):Prop where
 c:w'.cell? (O fp 0 Q)=J V
 z:w'.frozen? (O fp 0 Q)=false
 o:V.ownBlock≠J fp
theorem x8.later{w':Wd}(h:x8 w' a j)(b:bG w'.heap.size w' e):x8 e a j:=by
 have f:a<w'.heap.size:=aL _ _ h.c;have d:=b.block a f;have c:=h.c;have z:=h.z;refine⟨?_,?_,h.o⟩
 .simp only[aD,d]at *;exact c
 .simp only[bY,d]at *;exact z
theorem c7w{w:Wd}{A:Obj}{t:Ti}:x8 ((w.alloc A).alloc (.cells #[Sc Q 0 0] t)) (w.heap.size+1) (Sc Q 0 0):=by
 have e:((w.alloc A).alloc (.cells #[Sc Q 0 0] t)).heap[w.heap.size+1]?=J (.cells #[Sc Q 0 0] t):=by
  have h:=Ke (w.alloc A) (.cells #[Sc Q 0 0] t)
  rwa [show(w.alloc A).heap.size=w.heap.size+1 by simp]at h
 refine⟨?_,?_,λh=>by cases h⟩
 .simp only[aD,e];rfl
 .simp only[bY,e];rfl
theorem c9w{w:Wd}(A B:Obj):bG w.heap.size w ((w.alloc A).alloc B):=((bD _ _).alloc (af _) _).alloc Zc _
theorem QY(w:Wd)(K:aa)(d E F:Nat)(hF:K.nF<=32)(s:w.rowIs d 71 (K.nF*6) (U8 K))(o:d<w.heap.size) :
  aG V 111 #[rW K d E F] w λe w'=>∃a,e=.returned a/\pK w w' a (E9 K K.nF):=by
 unfold rW;have n:ar (w.rowIs d 71 (K.nF*6) (U8 K)/\d<w.heap.size/\K.nF<=32):=⟨s,o,hF⟩;clear s o hF
 go_enter Tryz.func111,Tryz.ntmps111
 go_wp2_with fail
 go_loopw [9] (λi w'=>∃(k:Nat) (a:Vu),k<=K.nF/\i=Y U k/\pK w w' a (E9 K k)/\x8 w' (w.heap.size+1) a) λi _=>K.nF - (bM i).toNat
 case atStart=>exact⟨0,Sc Q 0 0,by omega,Z,Fo _ _ (c9w _ _),c7w⟩
 case round =>
  obtain⟨k,a,I,rfl,L,p⟩:=hrel;have N:=p.c;have f:ar (pK w wr a (E9 K k)/\x8 wr (w.heap.size+1) a):=⟨L,p⟩;clear L p
  by_cases o:k<K.nF
  .obtain⟨c,g⟩:∃c,c=cut (U8 K) (k*6) 6:=⟨_,Z⟩;have u:ar ((V.info? 71).map (·.size)=J c.length):=by unfold ar;rw[g,xS];kernel_rfl
   have v:ar ((V.info? 71).map (·.size)=J c.toArray.size):=by unfold ar;rw[aR,g,xS];kernel_rfl
   have x:ar (c.toArray.all (·.oneCell')=true):=by unfold ar;rw[g];exact c3J K _ _
   have y:ar (c.toArray.size=6):=by unfold ar;rw[aR,g,xS]
   have z:ar (wr.rangeAt d (k*6) c):=by unfold ar;rw[g];exact Hu (n.out.1.of_block (f.out.1.oX.block _ n.out.2.1)) (o:=k*6) (m:=6) Za
   have A:ar (c=cut (U8 K) (k*6) 6):=g;clear g;have P:(0:Int)<=(k:Int):=by omega
   have R:k<1000:=by have:=n.out.2.2;omega
   have S:(k:Int)<(K.nF:Int):=by omega
   cases B:(K.F k 0==0)
   .go_wp2_with (first|(refine fR Z 71 _ Z d (k*6) Z c _ z.out Tryz.underlying71 Z u.out ?_)|(refine KN Z 71 _ _ Z _ 0 c.toArray Z Z (by rw[y.out];exact LI (by rfl)) v.out x.out ?_;intro h l q r m;have H:h.cell? (O wr.heap.size 0 Q)=J (Y U (K.F k 0)):=by { have:=HJ (f:=U8 K) (o:=k*6) (m:=6) (w:=h) (b:=wr.heap.size) (by rw[←A.out];exact l) (j:=0) Za;rw[this];unfold U8;rw[show(k*6+0) / 6=k by omega,show(k*6+0)%6=0 by omega] };have j:ar (bG wr.heap.size wr h):=m _ _ ((bD _ _).alloc (af _) _) (af _);clear l q r m))
    exact⟨⟨k+1,a,by omega,by simp,by have:=Hh K k;rw[B,nR Zb,cH]at this;rw[this];exact f.out.1.later j.out,f.out.2.later j.out⟩,by simp[bM];omega⟩
   .go_wp2_with (first|(refine fR Z 71 _ Z d (k*6) Z c _ z.out Tryz.underlying71 Z u.out ?_)|(refine KN Z 71 _ _ Z _ 0 c.toArray Z Z (by rw[y.out];exact LI (by rfl)) v.out x.out ?_;intro h l q r m;have H:h.cell? (O wr.heap.size 0 Q)=J (Y U (K.F k 0)):=by { have:=HJ (f:=U8 K) (o:=k*6) (m:=6) (w:=h) (b:=wr.heap.size) (by rw[←A.out];exact l) (j:=0) Za;rw[this];unfold U8;rw[show(k*6+0) / 6=k by omega,show(k*6+0)%6=0 by omega] };have j:ar (bG wr.heap.size wr h):=m _ _ ((bD _ _).alloc (af _) _) (af _);clear l q r m)|(go_at_call 118;refine(WX (w:=w) (k:Int) (f.out.1.later j.out) (by have:=EB K k;have:=n.out.2.2;omega) (Nat.le_succ _) (f.out.2.later j.out).c (f.out.2.later j.out).z (f.out.2.later j.out).o (UA K k)).mono ?_;rintro e C ⟨⟨T,rfl⟩,V5,L5,c5,z5,o5⟩;have D:ar (pK w C V5 (E9 K k++[(k:Int)])/\x8 C (w.heap.size+1) V5):=⟨L5,c5,z5,o5⟩;clear L5 c5 z5 o5))
    exact⟨⟨k+1,V5,by omega,by simp,by have:=Hh K k;rw[B,nT Z]at this;rw[this];exact D.out.1,D.out.2⟩,by simp[bM];omega⟩
  .obtain rfl:k=K.nF:=by omega
   go_wp2
   go_ret
   exact⟨a,Z,f.out.1⟩
end Go.Proofs.YtcgabodkegcpgaaGreatDoor
namespace Go.Proofs.YtcgabodkegcpgaaGreatDoor
open Go.Conc Go.RowKit
variable{a b c d:Nat}{e f g:Wd}{h i:Array Vu}{j k l m n:Vu}{o:Fm'}{p:List Nat}{q r:aN}{s:List Int}{t u:jx}{v w:aU}{x y:Ti}{z:mR}{A:Option Nat}{B C:Int}{D:Bool}{E F:aa}{H:List Vu}{I:Mem}{K:Array Bool}{L:Array aU}{N:Array Ti}{P:db}{R:List nY}{S:List eC}{T:List qc}{W:Vu->Wd->Prop}
variable{C:Ctx}{n:Nat}{pv:List Nat}{H:y6}{B:Vu}{E:Bool}
theorem pk.store(t:pk C R F pv H B D E e)(m:a∈pv)(u:H a=.cells h x (0,0))(j:Nat)(c:Vu) :
  pk C R F pv (H.set a (.cells (h.setIfInBounds j c) x (0,0))) B D E (e.setCell (O a j Q) c)/\oS C (C.o.bo::pv) e (e.setCell (O a j Q) c)/\fb R a=0:=by
 let⟨M,A,g⟩:=t;have p:=(g a m).1;have l:a∈C.o.bo::pv:=ah _ m;have v:e.heap[a]?=J (.cells h x (0,0)):=by rw[A.has a l,(g a m).2,u]
 have d:∀k,k≠a->(e.setCell (O a j Q) c).heap[k]?=e.heap[k]?:=λk d=>by rw[heap_setCell,nR λb=>d b.symm]
 have w:(e.setCell (O a j Q) c).heap[a]?=J (.cells (h.setIfInBounds j c) x (0,0)):=by rw[heap_setCell,nT Z,v];rfl
 have q:(e.setCell (O a j Q) c).heap.size=e.heap.size:=by simp[cQ]
 let⟨t2,y⟩:=A.blk;let⟨b0,z,I,K,X⟩:=A.own.ap a l;have s:fb R a=0:=U7 λo L=>A.pX a l p o L;have N:=A.Ia (w':=e.setCell (O a j Q) c) p l (A.env.rep.same (fJ q.symm) λk _ r=>d k (by rcases r with rfl|rfl|rfl|rfl<;>first|exact aA b0|exact aA z|exact aA I|exact aA K)) ⟨λi f=>?_,(V6 A.clear.lk (bh _)).1.oc⟩ (fJ q.symm) (λk _ P _=>d k P) w (by rw[d _ (aA p)];exact y)
 .refine⟨⟨_,N,λi f=>⟨(g i f).1,?_⟩⟩,⟨fJ q.symm,λk _ S _ _ _=>d k λb=>S (b▸l)⟩,s⟩;rw[y6.lj (g i f).1]
  by_cases b:i=a
  .subst b;rw[y6.nv,y6.nv]
  .rw[y6.lj b,y6.lj b];exact(g i f).2
 .have T:i≠a:=λb=>f (b▸s);let⟨W,G,r⟩:=A.env.fit.soft i f;exact⟨W,G,by rw[d i T];exact r⟩
theorem UG{s:j6}{g c:Gr}(q:a∈pv)(r:H a=.cells h x (0,0))(j:Nat)(b:Vu)(t:∀l K e w (Stop:Gr->Wd->Prop),pk C l K pv H B e E w->fb l a=0->(∀d,l6 V false (DL true (fb l)) Stop c ((w.setCell (O a j Q) b).at d))->∀d,l6 V false (DL true (fb l)) Stop g (w.at d))(u:i9 C n s pv (H.set a (.cells (h.setIfInBounds j b) x (0,0))) B E c):i9 C n s pv H B E g :=
 X3 (R:=λf k m o=>f=pv/\k=H.set a (.cells (h.setIfInBounds j b) x (0,0))/\m=B/\o=c) (λl K e w Stop p v d=>by
  let⟨y,A,z⟩:=p.store q r j b
  exact t l K e w Stop p z (v _ _ _ _ _ ⟨Z,Z,Z,Z⟩ y A λi D=>.inl D) d)
  (λf k m o ⟨F,I,L,N⟩=>by subst F I L N;exact u)
theorem y6.set_set(H:y6)(b:Nat)(x y:Obj):(H.set b x).set b y=H.set b y:=by funext i;by_cases e:i=b<;>simp[y6.set,e]
theorem y6.uA(H:y6){x:Obj}(h:H a=x):H.set a x=H:=by funext i;by_cases e:i=a<;>simp[y6.set,e,h]
theorem Fr.more{X:Obj}(d:a∉pv)(h:Fr A pv H B s):Fr A (a::pv) (H.set a X) B s:=by
 let⟨f,g,i,j,k,l⟩:=h;refine⟨f,g,i,j,k,l.imp id λ⟨m,c,t,o,b,p,q⟩=>⟨m,c,t,o,ah _ b,?_,q⟩⟩;rw[y6.lj λe=>d (by rw[←e];exact b)];exact p
theorem Fr.less(f:A≠J a)(h:Fr A (a::pv) H B s):Fr A pv H B s:=by
 let⟨g,d,i,j,k,l⟩:=h;refine⟨g,d,i,j,k,l.imp id λ⟨m,c,t,e,b,o,p⟩=>⟨m,c,t,e,?_,o,p⟩⟩;rcases ae.1 b with rfl|b
 .exact absurd (d.symm.trans e) f
 .exact b
variable{s:j6}{sz:Nat}{b':Oi}{a:db}{f:bF}{k:List bm}{F:List Fm'}{I:Array aN}{i D:Nat}{o:aN}{op:Op}{N:List Nat}{v:Vu}
theorem Wn(b:qe sz b' a)(c:o.dst=J D)(d:cJ D sz=true)(e:Bw D b'=true):qe sz ((D,v)::b') (a.put o.dst v):=by
 rw[c];have:=b.put (by simpa using d:D<sz) v
 rwa [Mp e]at this
theorem gx{X:Obj}(g:Obj.oc X)(q:qe sz b' a)(r:I[i]?=J o)(t:o.guard=Q)(h:o.op=op)(u:o.dst=J D)(x:cJ D sz=true)(y:Bw D b'=true)(j:∀c:aN,c.op=op->∀w:Wd,(Ex a.eval c).run V w=.ok (.value (Po (J (O w.heap.size 0 Q)))) (w.alloc X)/\(Ex a.eval c).events V w #[]=#[])(z:∀b m,b∉pv->b≠C.o.bo->qe sz ((D,Po (J (O b 0 Q)))::b') m->i9 C n s (b::pv) (H.set b X) B E (G ((aB f).at m (.inRegion I N::k)) F)) :
  i9 C n s pv H B E (G ((aB f).at a (.inRegion I (i::N)::k)) F):=by
 refine c3Y (g':=λb=>G ((aB f).at (a.put o.dst (Po (J (O b 0 Q)))) (.inRegion I N::k)) F) g (λl K W w b Stop A M L d=>?_) λb P R=>z b _ P R (Wn q u x y);refine C5 r (B7 t) (by show aX≠.early;decide) (λd K' S=>?_) d;rw[(j o h (w.at d)).1];refine S _ _ ⟨y8 (λe T=>?_) g,?_⟩
 .have p:=aZ T;rw[(j o h (w.at d)).2]at p;simp at p
 .subst A;exact L d
theorem gs{b j:Nat}{x:Vu}(g:b∈pv)(m:H b=.cells h c (0,0))(t:j<h.size)(u:I[i]?=J o)(y:o.guard=Q)(z:o.op=op)(A:o.dst=Q)(L:∀p:aN,p.op=op->∀w:Wd,w.cell? (O b j Q)=J h[j]->w.frozen? (O b j Q)=false->(Ex a.eval p).run V w=.ok .skip (w.setCell (O b j Q) x)/\∀e∈(Ex a.eval p).events V w #[],e=⟨.cell (O b j Q),true,false⟩)(P:i9 C n s pv (H.set b (.cells (h.setIfInBounds j x) c (0,0))) B E (G ((aB f).at a (.inRegion I N::k)) F)) :
  i9 C n s pv H B E (G ((aB f).at a (.inRegion I (i::N)::k)) F):=by
 refine UG g m j x (λl K un w Stop q R S d=>?_) P;have r:w.cell? (O b j Q)=J h[j]:=by
  have:=q.blk g;rw[m]at this;simp[aD,this,t]
 have T:w.frozen? (O b j Q)=false:=by
  have:=q.blk g;rw[m]at this;simp[bY,this]
 refine C5 u (B7 y) (by show aX≠.early;decide) (λd K' W=>?_) d;let⟨M,X⟩:=L o z (w.at d) r T;rw[M,uponK_skip,A];exact W _ _ ⟨yf (by rw[R];exact bh _) (aL _ _ r) λe he=>X e (aZ he),S d⟩
noncomputable def PO:List bm :=
 match Tryz.f114.body with
 | some (.seq _ (.seq (.block i (.loop c)) r))=>[.code c,.inLoop c,.inBlock i,.code r]
 | _=>[]
def wG(d:Int):Nat->(a b c:Int)->List Int->M (Int×List Int)
 | 0,_,_,_,xs=>(sG 10).bind λe=>M.pure (e,xs)
 | f+1,a,b,c,xs=>match xs with
  | []=>(sG 10).bind λe=>M.pure (e,[])
  | x::r=>(E3 d a x c).bind λz=>if z.2=5 then wG d f a x c (pQ (x::r)) else M.pure (z.2,if z.2=0 then pQ (x::r) else x::r)
def Cc(d:Int):Nat->(a b c:Int)->List Int->M (Int×List Int)
 | 0,_,_,_,xs=>(sG 10).bind λe=>M.pure (e,xs)
 | f+1,a,b,c,xs=>match xs with
  | []=>(sG 10).bind λe=>M.pure (e,[])
  | x::r=>(E3 d a b x).bind λz=>if z.2=5 then Cc d f a b x (pQ (x::r)) else M.pure (z.2,if z.2=0 then pQ (x::r) else x::r)
noncomputable def Sw:List bm :=
 match Tryz.f114.body with
 | some (.seq _ (.seq (.block i (.loop (.seq x (.block j (.seq y (.seq z (.seq u v))))))) r))=>[.code v,.inBlock j,.inLoop (.seq x (.block j (.seq y (.seq z (.seq u v))))),.inBlock i,.code r]
 | _=>[]
noncomputable def Ua:List bm :=
 match Tryz.f114.body with
 | some (.seq _ (.seq (.block i (.loop (.seq x (.block j (.seq y (.seq z (.seq (.seq u c) v))))))) r))=>[.code c,.code v,.inBlock j,.inLoop (.seq x (.block j (.seq y (.seq z (.seq (.seq u c) v))))),.inBlock i,.code r]
 | _=>[]
abbrev tE(t:Int×Int×Int):Array dQ:=#[Y U t.1,Y U t.2.1,Y U t.2.2]
theorem XR(c':Int)(u:Nat)(hp:u<3)(A:Option Nat)(fr:Fm')(F:List Fm')(k:Int×List Int->Bool->j6)(b:Nat)(hb:b∉pv)(h':A≠J b)(H0:y6)(W:Nat->Int×Int×Int->List Int->M (Int×List Int))(g:Int×Int×Int->Int->Int×Int×Int)(w0:∀f t,W f t []=(sG 10).bind λe=>M.pure (e,[]))(w1:∀f t x r,W (f+1) t (x::r)=(E3 c' (g t x).1 (g t x).2.1 (g t x).2.2).bind λz=>if z.2=5 then W f (g t x) (pQ (x::r)) else M.pure (z.2,if z.2=0 then pQ (x::r) else x::r))(p':∀t x,(tE t).setIfInBounds u (Y U x)=tE (g t x))(hn:∀e P c L p,Fr A pv c L P->(∀i∈pv,J i≠A->c i=H0 i)->i9 C n (k (e,P) p) pv c L p (G (fr.finish (Y U e)) F)) :
  ∀(f:Nat) (T:List Int) (H:y6) (B:Vu) (t:Int×Int×Int),T.length<=f->Fr A pv H B T->(∀i∈pv,J i≠A->H i=H0 i)->∀(E:Bool) (a:db),pz 48 [(0,sv (pO C.o)),(1,si c'),(3,si u),(6,sv (Po (J (O b 0 Q))))] a ->
  i9 C n ((W f t T).then E k) (b::pv) (H.set b (.cells (tE t) 25 (0,0))) B E (G ((aB 114).at a PO) (fr::F)):=by
 have i':∀(H:y6) (B:Vu) (t:Int×Int×Int),Fr A pv H B []->(∀i∈pv,J i≠A->H i=H0 i)->∀(E:Bool) (a:db),pz 48 [(0,sv (pO C.o)),(1,si c'),(3,si u),(6,sv (Po (J (O b 0 Q))))] a ->
   i9 C n (((sG 10).bind λe=>M.pure (e,([]:List Int))).then E k) (b::pv) (H.set b (.cells (tE t) 25 (0,0))) B E (G ((aB 114).at a PO) (fr::F)):=by
  intro H B t hF hH E a S;obtain⟨X,h1,hv,h3,h4⟩:=id hF;rw[Sl.val,h3]at hv;subst hv;rw[M.fc];refine gm 10 [[.slice (X.blk.map (O · 0 Q)) 0 X.cap]] S (λ_=>rfl) (λl K R w m=>⟨nQ,m.ck (j:=10) Z⟩) λa S=>?_;refine gu S Z Z ?_;refine oE 9 S (λ_=>rfl) λa S=>?_;refine gf S Z Z Z fH Z Z Z ?_;refine FY 10 λe p=>?_;rw[M.oA];refine gk S Z Z (si e) Z Z Z Z λa S=>?_;refine oE 9 S (λ_=>rfl) λa S=>?_;refine gz S eQ Z Z Z ?_;exact xB hb (hn e [] H _ p hF hH)
 intro f
 induction f with
 | zero =>
  intro T H B t hl hF hH E a S;obtain rfl:T=[]:=eI.1 Za;rw[w0];exact i' H B t hF hH E a S
 | succ f ih =>
  intro T H B t hl hF hH E a S
  cases T with
  | nil=>rw[w0];exact i' H B t hF hH E a S
  | cons x r =>
  obtain⟨X,h1,hv,h3,h4⟩:=id hF;obtain⟨bq,cq,tq,g1,g2,g3,g4⟩:=h4.2.resolve_left (by rw[h3];simp);have hq:bq≠b:=λe=>hb (e▸g2);have q':=g4 0 x (by rw[h3];rfl);rw[Sl.val,h3,g1]at hv;have hv:B=Sc (J (O bq 0 Q)) (r.length+1) X.cap:=hv;subst hv;rw[w1,M.fc];refine gm 10 [[Sc (J (O bq 0 Q)) (r.length+1) X.cap]] S (λ_=>rfl) (λl K R w m=>⟨nQ,m.ck (j:=10) Z⟩) λa S=>?_;refine gt S Z Zc ?_;refine gm 11 [[Sc (J (O bq 0 Q)) (r.length+1) X.cap],[Y U x]] S (λ_=>rfl) (λl K R w m=>⟨⟨⟨nQ,m.ck (j:=10) Z⟩,by constructor<;>omega⟩,m.bk (ah _ g2) ((y6.lj hq).trans g3) q'⟩) λa S=>?_;have p0:(0:Int)<=(u:Int):=by omega
  have p1:(u:Int)<3:=by omega
  refine Dm (v:=Po (J (O b u Q))) (op:=.indexAddr 25 (.tmp 6) (.tmp 17)) S Z Z Z Z Z Z Z (λl K R w d m o h=>by unfold Ex;simp only[h,S.lv.get (t:=6) Z,S.lv.get (t:=17) Z,Sv.den,ou.den];go_simp) λa S=>?_
  refine gs (b:=b) (j:=u) (x:=Y U x) (op:=.store 3 (.tmp 24) (.tmp 23)) (ao ..) (y6.nv) (by simpa using hp) Z Z Z Z (λo h w e1 e2=>by
   constructor
   .unfold Ex;simp only[h,S.lv.get (t:=24) Z,S.lv.get (t:=23) Z,Sv.den,ou.den];go_simp
   .unfold Ex;simp only[h,S.lv.get (t:=24) Z,S.lv.get (t:=23) Z,Sv.den,ou.den];simp[go_sem,e1,e2]) ?_
  rw[y6.set_set,p'];refine gm 9 [(tE (g t x)).toList] S (λ_=>rfl) (λl K R w m=>⟨nQ,m.rk (ao ..) (y6.nv) λj v hj=>by simpa using hj⟩) λa S=>?_;refine gf S Z Z Z cT Z Z Z ?_;refine xu c' _ _ _ λy e p hg=>?_;refine gk S Z Z (t2 y e) Z Z Z Z λa S=>?_;have j':=hF.more (X:=.cells (tE (g t x)) 25 (0,0)) hb;have k':∀(c:y6) (L:Vu) (P:List Int) (a:db),Fr A (b::pv) c L P->(∀i∈b::pv,J i≠A->c i=(H.set b (.cells (tE (g t x)) 25 (0,0))) i)->(e=5->P=pQ (x::r))->(e≠5->P=if e=0 then pQ (x::r) else x::r) ->
    pz 48 [(10,si e),(0,sv (pO C.o)),(1,si c'),(3,si u),(6,sv (Po (J (O b 0 Q))))] a->i9 C n ((if e=5 then W f (g t x) (pQ (x::r)) else M.pure (e,if e=0 then pQ (x::r) else x::r)).then p k) (b::pv) c L p (G ((aB 114).at a Sw) (fr::F)):=by
   intro c L P a f' g' h5 h6 S;have l':c=c.set b (.cells (tE (g t x)) 25 (0,0)):=(y6.uA c ((g' b (ao ..) λh=>h' h.symm).trans (y6.nv))).symm;have m':∀i∈pv,J i≠A->c i=H0 i:=λi hi n'=>by
    rw[g' i (ah _ hi) n',y6.lj (show i≠b from λh=>hb (h▸hi))];exact hH i hi n'
   refine oE 5 S (λ_=>rfl) λa S=>?_
   by_cases q:e=5
   .refine gu S Z (by simp[q]) ?_;refine oE 3 S (λ_=>rfl) λa S=>?_;rw[nT q,l'];obtain rfl:=h5 q;exact ih _ c L (g t x) (by rw[AV];simp at hl ⊢;omega) (f'.less h') m' p a (S.pC [0,1,3,6] Z)
   .refine gt S Z (by simp[q]) ?_;refine oE 9 S (λ_=>rfl) λa S=>?_;refine gz S eQ Z Z Z ?_;rw[nR q,M.oA,←h6 q,l'];exact xB hb (hn e P c L p (f'.less h') m')
  have o':∀a,pz 48 [(37,sv (Bo true)),(10,si e),(0,sv (pO C.o)),(1,si c'),(3,si u),(6,sv (Po (J (O b 0 Q))))] a->(e≠5->e=0)->i9 C n ((if e=5 then W f (g t x) (pQ (x::r)) else M.pure (e,if e=0 then pQ (x::r) else x::r)).then p k) (b::pv) (H.set b (.cells (tE (g t x)) 25 (0,0))) (Sc (J (O bq 0 Q)) (r.length+1) X.cap) p (G ((aB 114).at a Ua) (fr::F)):=by
   intro a S h0;refine gt S Z Z ?_;refine oE 4 S (λ_=>rfl) λa S=>?_;refine Dm (v:=.iface 190 (Po (J (O C.o.bo 10 Q)))) (op:=.makeInterface 190 (.tmp 40)) S Z Z Z Zd Z Z Z (λl K R w d m o h=>by unfold Ex;simp only[h,S.lv.get (t:=40) Z,Sv.den,ou.den];go_simp) λa S=>?_;refine gf S Z Z Z Tryz.func127 Z Z Z ?_;refine Yt SG j' Zc λc L y f' g'=>?_;refine gk S Z Z (sv y) Z Z Z Z λa S=>?_;refine oE 1 S (λ_=>rfl) λa S=>?_;exact k' c L _ a f' g' (λ_=>rfl) (λh=>by rw[nT (h0 h)]) (S.pC [10,0,1,3,6] Z)
  by_cases e0:e=0
  .refine gm 17 [[Bo true,Bo true]] S (λ_=>rfl) (λl K R w m=>⟨nQ,by simp[e0]⟩) λa S=>?_;exact o' a (S.pC [37,10,0,1,3,6] Z) λ_=>e0
  by_cases q:e=5
  .refine gm 17 [[Bo false,Bo false],[Bo true,Bo true]] S (λ_=>rfl) (λl K R w m=>⟨⟨nQ,by simp[e0]⟩,by simp[q]⟩) λa S=>?_;exact o' a (S.pC [37,10,0,1,3,6] Z) λh=>absurd q h
  .refine gm 17 [[Bo false,Bo false]] S (λ_=>rfl) (λl K R w m=>⟨nQ,by simp[e0]⟩) λa S=>?_;refine gu S Z (by simp[q]) ?_;refine oE 1 S (λ_=>rfl) λa S=>?_;exact k' _ _ _ a j' (λ_ _ _=>rfl) (λh=>absurd h q) (λ_=>by rw[nR e0]) (S.pC [10,0,1,3,6] Z)
theorem Oq{H:y6}{B:Vu}{E:Bool}(g:Nat)(j:g<3){l:List Int}(hF:Fr A pv H B l)(X:∀b,A=J b->b∈pv)(q a b c:Int)(u:Fm')(F:List Fm')(k:Int×List Int->Bool->j6)(W:Nat->Int×Int×Int->List Int->M (Int×List Int))(d:Int×Int×Int->Int->Int×Int×Int)(w0:∀f t,W f t []=(sG 10).bind λe=>M.pure (e,[]))(w1:∀f t x r,W (f+1) t (x::r)=(E3 q (d t x).1 (d t x).2.1 (d t x).2.2).bind λz=>if z.2=5 then W f (d t x) (pQ (x::r)) else M.pure (z.2,if z.2=0 then pQ (x::r) else x::r))(d':∀t x,(tE t).setIfInBounds g (Y U x)=tE (d t x))(hn:∀e L y P R,Fr A pv y P L->(∀i∈pv,J i≠A->y i=H i)->i9 C n (k (e,L) R) pv y P R (G (u.finish (Y U e)) F)) :
  i9 C n ((W l.length (a,b,c) l).then E k) pv H B E (G (ay V 114 #[pO C.o,Y U q,.agg #[Y U a,Y U b,Y U c],Y U g] .normal) (u::F)):=by
 refine gn [sv (pO C.o),si q,.g [.v (Y U a),.v (Y U b),.v (Y U c)],si g] eQ Z Z Z Z λm S=>oE 2 S (λ_=>rfl) λm S=>?_
 refine gx (X:=.cells (tE (a,b,c)) 25 (0,0)) (op:=.box 25 (.tmp 2)) nQ S.lv Z Z Z Z Z Z (λo h w=>by
  constructor
  .unfold Ex;simp only[h,S.lv.get (t:=2) Z,Sv.den,ou.den,List.map];go_simp;try rfl
  .unfold Ex;simp only[h,S.lv.get (t:=2) Z,Sv.den,ou.den,List.map];simp[go_sem]) λK m T h2 hA=>?_
 have S:pz 48 ((6,sv (Po (J (O K 0 Q))))::_) m:=⟨hA,λp j=>by
  rcases ae.1 j with rfl|j
  .trivial
  .exact S.wf p j⟩
 refine oE 5 S (λ_=>rfl) λm S=>XR q g j A u F k K T (λe=>T (X K e)) H W d w0 w1 d' hn l.length l H B (a,b,c) (af _) hF (λ_ _ _=>rfl) E m (S.pC [0,1,3,6] Z)
theorem Hs{H:y6}{B:Vu}{E:Bool}{d:List Int}(hF:Fr A pv H B d)(q:∀b,A=J b->b∈pv)(g a b c:Int){h:Fm'}{F:List Fm'}{k:Int×List Int->Bool->j6}(r:∀e l j m p,Fr A pv j m l->(∀i∈pv,J i≠A->j i=H i)->i9 C n (k (e,l) p) pv j m p (G (h.finish (Y U e)) F)) :
  i9 C n ((wG g d.length a b c d).then E k) pv H B E (G (ay V 114 #[pO C.o,Y U g,.agg #[Y U a,Y U b,Y U c],Y U 1] .normal) (h::F)) :=
 Oq 1 Zb hF q g a b c h F k (λf t d=>wG g f t.1 t.2.1 t.2.2 d) (λt x=>(t.1,x,t.2.2)) (λf t=>by cases f<;>rfl) (λ_ _ _ _=>rfl) (λ_ _=>rfl) r
theorem SX{H:y6}{B:Vu}{E:Bool}{d:List Int}(hF:Fr A pv H B d)(q:∀b,A=J b->b∈pv)(g a b c:Int){h:Fm'}{F:List Fm'}{k:Int×List Int->Bool->j6}(r:∀e l j m p,Fr A pv j m l->(∀i∈pv,J i≠A->j i=H i)->i9 C n (k (e,l) p) pv j m p (G (h.finish (Y U e)) F)) :
  i9 C n ((Cc g d.length a b c d).then E k) pv H B E (G (ay V 114 #[pO C.o,Y U g,.agg #[Y U a,Y U b,Y U c],Y U 2] .normal) (h::F)) :=
 Oq 2 Zb hF q g a b c h F k (λf t d=>Cc g f t.1 t.2.1 t.2.2 d) (λt x=>(t.1,t.2.1,x)) (λf t=>by cases f<;>rfl) (λ_ _ _ _=>rfl) (λ_ _=>rfl) r
def xU(b:Int)(c d:List Int)(e:Int):M Int:=(J7 b c d).bind λz=>M.pure (if z.2=3 then 3 else e)
theorem c0u(h j:Int)(b c:Sl)(p:b.ok pv H)(q:c.ok pv H){l:Fm'}{F:List Fm'}{k:Int->Bool->j6}(m:∀e d,i9 C n (k e d) pv H B d (G (l.finish (Y U e)) F)) :
  i9 C n ((xU h b.xs c.xs j).then E k) pv H B E (G (ay V 124 #[pO C.o,Y U h,b.val,c.val,Y U j] .normal) (l::F)):=by
 unfold xU;rw[M.fc];refine gn [sv (pO C.o),si h,sv b.val,sv c.val,si j] ji Z Z Z Z λa S=>oE 20 S (λ_=>rfl) λa S=>gf S Z Z Z jh Z Z Z<|KB h b c p q λx e d=>?_;rw[M.oA];refine gk S Z Z (t2 x e) Z Z Z Z λa S=>oE 20 S (λ_=>rfl) λa S=>?_
 by_cases g:e=3
 .refine gt S Z (by simp[g])<|oE 20 S (λ_=>rfl) λa S=>gz S ji Z Z Z ?_;rw[nT g,g];exact m 3 d
 .refine gu S Z (by simp[g])<|oE 20 S (λ_=>rfl) λa S=>gz S ji Z Z Z ?_;rw[nR g];exact m j d
def Sl.take(s:Sl)(i:Nat):Sl:=⟨s.blk,s.cap,s.xs.take i⟩
theorem Sl.rH{s:Sl}{pv:List Nat}{H:y6}(h:s.ok pv H)(i:Nat):(s.take i).ok pv H:=by
 refine⟨by simp only[Sl.take,jF];have:=h.1;omega,?_⟩;rcases h.2 with h|⟨b,c,t,e,g,l,m⟩
 .exact .inl (by simp[Sl.take,h])
 .refine .inr ⟨b,c,t,e,g,l,λj x d=>m j x ?_⟩;simp only[Sl.take,eV]at d;split at d
  .exact d
  .cases d
theorem Sl.rU(s:Sl):s.take s.xs.length=s:=by simp[Sl.take]
def xq(b:Int):List Int->Nat->M (Nat×Int)
 | [],i=>M.pure (i,0)
 | y::ys,i=>(E3 7 b y y).bind λz=>if z.2=0 then xq b ys (i+1) else M.pure (i,z.2)
noncomputable def c3U:List bm :=
 match Tryz.f122.body with
 | some (.seq _ (.seq (.seq _ (.block i (.loop c))) r))=>[.code c,.inLoop c,.inBlock i,.code r]
 | _=>[]
theorem I8{a:db}{o:aN}{i:Nat}{d:Sl}(l:o.op=.slice 103 (.tmp b) Q (J (.tmp c)) Q)(j:a.eval (.tmp b)=d.val)(m:a.eval (.tmp c)=Y U i)(r:i<=d.xs.length)(t:d.xs.length<=d.cap)(g:∃h,d.blk=J h):(Ex a.eval o).run V e=.ok (.value (d.take i).val) e:=by
 let⟨h,g⟩:=g;have p:d.val=Sc (J (O h 0 Q)) d.xs.length d.cap:=by rw[Sl.val,g];rfl
 have q:(d.take i).val=Sc (J (O h 0 Q)) i d.cap:=by simp[Sl.val,Sl.take,g];omega
 have u:(0:Int)<=(i:Int):=by omega
 have w:(i:Int)<=(d.cap:Int):=by omega
 rw[q];rw[p]at j;unfold Ex;simp only[l,j,m,Option.map];go_simp;try rfl
theorem OB{d:Sl}(h:d.val=Sc (J (O b 0 Q)) d.xs.length d.cap):d.blk=J b:=by
 cases e:d.blk with
 | none=>simp[Sl.val,e]at h
 | some c=>simp[Sl.val,e]at h;rw[h]
theorem c0t(t:Int)(b:Sl)(z:b.ok pv H)(T:b.xs.length<=b.cap)(A:Fm')(F:List Fm')(k:Nat×Int->Bool->j6)(L:∀i e g,i9 C n (k (i,e) g) pv H B g (G (A.finish (.tuple #[(b.take i).val,Y U e])) F)) :
  ∀(c:List Int) (i:Nat),(∀j,c[j]?=b.xs[i+j]?)->i+c.length=b.xs.length->∀(E:Bool) a,pz 36 [(0,sv (pO C.o)),(1,si t),(2,sv b.val),(12,sv b.val),(13,si b.xs.length),(14,si i)] a ->
  i9 C n ((xq t c i).then E k) pv H B E (G ((aB 122).at a c3U) (A::F)):=by
 intro c;have c':b.xs.length<=40:=by have:=z.1;omega
 induction c with
 | nil =>
  intro i u x E a S;have P:i=b.xs.length:=by simpa using x
  refine oE 5 S (λ_=>rfl) λa S=>gu S Z (by simp;omega)<|oE 9 S (λ_=>rfl) λa S=>gz S jj Z Z Z ?_;have:=L i 0 E;rw[P,Sl.rU]at this;unfold xq;rw[P];exact this
 | cons p c W =>
  intro i u x E a S;simp only[bQ]at x;let⟨q,m,X⟩:=Sl.ck (C:=C) z (i:=i) (x:=p) (by have:=u 0;simpa using this.symm);unfold xq;rw[M.fc];refine oE 5 S (λ_=>rfl) λa S=>gt S Z (by simp;omega) ?_;rw[m]at S;refine gm 30 [[Y U p]] S (λ_=>rfl) (λl K un w R=>X R) λa S=>gf S Z Z Z cT Z Z Z<|xu 7 t p p λy e g hg=>gk S Z Z (t2 y e) Z Z Z Z λa S=>oE 20 S (λ_=>rfl) λa S=>?_
  by_cases r:e=0
  .rw[nT r];refine gu S Z (by simp[r])<|oE 7 S (λ_=>rfl) λa S=>?_;rw[←m,W5 Za Za,show((i:Int)+1)=((i+1:Nat):Int) from by simp]at S;exact W (i+1) (λj=>by have:=u (j+1);simp at this;rw[this];congr 1;omega) Za g a (S.pC [0,1,2,12,13,14] Z)
  .rw[nR r,M.oA];refine gt S Z (by simp[r])<|oE 4 S (λ_=>rfl) λa S=>Dm (v:=(b.take i).val) (op:=.slice 103 (.tmp 30) Q (J (.tmp 31)) Q) S Z Z Z Zd Z Z Z (λl K un w d R o h=>I8 h ((S.lv.get Z).trans m.symm) (S.lv.get Z) Za T ⟨q,OB m⟩) λa S=>oE 9 S (λ_=>rfl) λa S=>gz S jj Z Z Z<|L i e g
theorem ZP(c:Int)(b:Sl)(h:b.ok pv H)(l:b.xs.length<=b.cap){d:Fm'}{F:List Fm'}{k:Nat×Int->Bool->j6}(m:∀i e g,i9 C n (k (i,e) g) pv H B g (G (d.finish (.tuple #[(b.take i).val,Y U e])) F)) :
  i9 C n ((xq c b.xs 0).then E k) pv H B E (G (ay V 122 #[pO C.o,Y U c,b.val] .normal) (d::F)):=by
 refine gn [sv (pO C.o),si c,sv b.val] jj Z Z Z Z λa S=>oE 14 S (λ_=>rfl) λa S=>c0t c b h l d F k m b.xs 0 (λj=>by simp) Zc E a (S.pC [0,1,2,12,13,14] Z)
theorem Sl.th{s : Sl}{pv : List Nat}{H e : y6}{g : Option Nat}(h : s.ok pv H)(l : s.blk≠g \/ s.blk = Q)(m : ∀i∈pv, J i≠g -> e i = H i) : s.ok pv e := by
  refine⟨h.1, h.2.imp id λ⟨b, c, t, d, j, p, q⟩ => ⟨b, c, t, d, j, ?_, q⟩⟩
  rw[m b j (by rw[← d];exact l.resolve_right (by simp[d]))]
  exact p
def xn(b:Int):List Int->Nat->List Int->M ((Nat×Int)×List Int)
 | [],i,xs=>M.pure ((i,0),xs)
 | y::ys,i,xs=>(Cc 6 xs.length b y 0 xs).bind λz=>if z.1=0 then xn b ys (i+1) z.2 else M.pure ((i,z.1),z.2)
noncomputable def Qo:List bm :=
 match Tryz.f120.body with
 | some (.seq _ (.seq (.seq _ (.block i (.loop c))) r))=>[.code c,.inLoop c,.inBlock i,.code r]
 | _=>[]
theorem Vj(g:Option Nat)(h':∀b,g=J b->b∈pv)(z:y6)(R:Int)(c:Sl)(X:c.ok pv z)(i':c.blk≠g\/c.blk=Q)(j':c.xs.length<=c.cap)(fr:Fm')(F:List Fm')(k:(Nat×Int)×List Int->Bool->j6)(hn:∀i e t m u x,Fr g pv m u t->(∀i∈pv,J i≠g->m i=z i)->i9 C n (k ((i,e),t) x) pv m u x (G (fr.finish (.tuple #[(c.take i).val,Y U e])) F)) :
  ∀(r:List Int) (i:Nat),(∀j,r[j]?=c.xs[i+j]?)->i+r.length=c.xs.length->∀(y:List Int) (H:y6) (B:Vu),Fr g pv H B y->(∀i∈pv,J i≠g->H i=z i)->∀(E:Bool) a,pz 31 [(0,sv (pO C.o)),(1,si R),(2,sv c.val),(11,sv c.val),(12,si c.xs.length),(13,si i)] a ->
  i9 C n ((xn R r i y).then E k) pv H B E (G ((aB 120).at a Qo) (fr::F)):=by
 intro r;have l':c.xs.length<=40:=by have:=X.1;omega
 induction r with
 | nil =>
  intro i T W y H B hF A E a S;have hi:i=c.xs.length:=by simpa using W
  refine oE 5 S (λ_=>rfl) λa S=>gu S Z (by simp;omega)<|oE 9 S (λ_=>rfl) λa S=>gz S jk Z Z Z ?_;have:=hn i 0 y H B E hF A;rw[hi,Sl.rU]at this;unfold xn;rw[hi];exact this
 | cons p r ih =>
  intro i T W y H B hF A E a S;simp only[bQ]at W;let⟨q,L,ck⟩:=Sl.ck (C:=C) (Sl.th X i' A) (i:=i) (x:=p) (by have:=T 0;simpa using this.symm);unfold xn;rw[M.fc];refine oE 5 S (λ_=>rfl) λa S=>gt S Z (by simp;omega) ?_;rw[L]at S;refine gm 30 [[Y U p]] S (λ_=>rfl) (λl K un w St=>ck St) λa S=>gf S Z Z Z eQ Z Z Z<|SX hF h' 6 R p 0 λe t m u x f' k'=>?_;have g':∀i∈pv,J i≠g->m i=z i:=λi h1 h2=>(k' i h1 h2).trans (A i h1 h2);refine gk S Z Z (si e) Z Z Z Z λa S=>oE 20 S (λ_=>rfl) λa S=>?_
  by_cases P:e=0
  .rw[nT P];refine gu S Z (by simp[P])<|oE 7 S (λ_=>rfl) λa S=>?_;rw[←L,W5 Za Za,show((i:Int)+1)=((i+1:Nat):Int) from by simp]at S;exact ih (i+1) (λj=>by have:=T (j+1);simp at this;rw[this];congr 1;omega) Za t m u f' g' x a (S.pC [0,1,2,11,12,13] Z)
  .rw[nR P,M.oA];refine gt S Z (by simp[P])<|oE 4 S (λ_=>rfl) λa S=>Dm (v:=(c.take i).val) (op:=.slice 103 (.tmp 25) Q (J (.tmp 26)) Q) S Z Z Z Zd Z Z Z (λl K un w d St o h=>I8 h ((S.lv.get Z).trans L.symm) (S.lv.get Z) Za j' ⟨q,OB L⟩) λa S=>oE 9 S (λ_=>rfl) λa S=>gz S jk Z Z Z<|hn i e t m u x f' g'
theorem VQ(r:∀b,A=J b->b∈pv)(d:Int)(c:Sl)(t:c.ok pv H)(u:c.blk≠A\/c.blk=Q)(w:c.xs.length<=c.cap){g:List Int}(hF:Fr A pv H B g){h:Fm'}{F:List Fm'}{k:(Nat×Int)×List Int->Bool->j6}(x:∀i e m l p q,Fr A pv l p m->(∀i∈pv,J i≠A->l i=H i)->i9 C n (k ((i,e),m) q) pv l p q (G (h.finish (.tuple #[(c.take i).val,Y U e])) F)) :
  i9 C n ((xn d c.xs 0 g).then E k) pv H B E (G (ay V 120 #[pO C.o,Y U d,c.val] .normal) (h::F)):=by
 refine gn [sv (pO C.o),si d,sv c.val] jk Z Z Z Z λa S=>oE 14 S (λ_=>rfl) λa S=>Vj A r H d c t u w h F k x c.xs 0 (λj=>by simp) Zc g H B hF (λ_ _ _=>rfl) E a (S.pC [0,1,2,11,12,13] Z)
structure xY (pv:List Nat) (H:y6) (v v':Wd) (bs:List Nat) (Hn:y6):Prop where
 size:v.heap.size<=v'.heap.size
 old:∀k,k<v.heap.size->v'.heap[k]?=v.heap[k]?
 new:∀b∈bs,v.heap.size<=b/\v'.heap[b]?=J (Hn b)
 keep:∀i∈pv,Hn i=H i
theorem pk.lone{K:aa}{j:Bool}{v:Wd}(l:pk C R K pv H B j E e)(d:Lk (fb R) v (e.at b)):∀i∈pv,i<v.heap.size/\(Obj.oc (H i)->v.heap[i]?=J (H i)):=λi c=>by
 let⟨r,A,g⟩:=l;have m:fb R i=0:=U7 λo p=>A.pX i (ah _ c) (g i c).1 o p;have h:=A.has i (ah _ c);refine⟨by rw[d.size];exact(Zj h).1,λq=>?_⟩;rw[d.heap,show(e.at b).heap=e.heap from Z,h,(g i c).2,m,aF,yl q]
theorem pk.qv{K:aa}{p:Bool}{v j:Wd}(q:pk C R K pv H B p E e)(r:Lk (fb R) v (e.at b))(d:Lk (fb R) j g)(t:oP (fb R) (e.at b) g){bs:List Nat}{Hn:y6}(h:xY pv H v j bs Hn) :
  pk C R K (bs++pv) Hn B p E g/\oS C (C.o.bo::pv) e g/\Sub (C.o.bo::(bs++pv)) (C.o.bo::pv) e/\∀c∈bs,c∉pv/\c≠C.o.bo:=by
 have w:v.heap.size=e.heap.size:=r.size;have L:j.heap.size=g.heap.size:=d.size;refine q.more d.fit (by have:=h.size;omega) (λk P=>C7 (w:=e.at b) t r d (h.old k Za)) (λc x=>?_) h.keep;let⟨l,m⟩:=h.new c x;rw[w]at l;let⟨S,A,T⟩:=q;have y:fb R c=0:=U7 λo z=>by have:=KO.lt A.env.ko z;omega
 refine⟨l,?_⟩;rw[d.heap,y]at m
 cases u:g.heap[c]? with
 | none=>grind
 | some o=>rw[u,aF,yl (t.new c o l u)]at m;exact m
theorem S3{f:bF}(T:Sg f=true){R:Vu->List Nat->y6->Prop}(W:∀v:Wd,(∀i∈pv,i<v.heap.size/\(Obj.oc (H i)->v.heap[i]?=J (H i)))->aG V f h v λe m=>∃x c j,e=.returned x/\xY pv H v m c j/\R x c j)(q:Fm')(F:List Fm')(M:∀x c j,R x c j->(∀b∈c,b∉pv/\b≠C.o.bo)->(∀i∈pv,j i=H i)->i9 C n s (c++pv) j B E (G (q.finish x) F)) :
  i9 C n s pv H B E (G (ay V f h .normal) (q::F)):=by
 refine X3 (R:=λz p L P=>∃x c,R x c p/\(∀b∈c,b∉pv/\b≠C.o.bo)/\(∀i∈pv,p i=H i)/\z=c++pv/\L=B/\P=G (q.finish x) F) (λl K un w Stop r X d=>?_) ?_
 .have hc:=r.clear;have a':Fit (fb l) (w.at d):=by let⟨p,A,hH⟩:=r;exact⟨A.env.fit.soft,A.env.fit.clear⟩
  refine(xC xa (sft:=fb l) (w0:=w.at d) T a' false (Q:=λx m=>∃v c j,Lk (fb l) v (w.at d)/\xY pv H v m c j/\R x c j) (λv u=>(W v (r.lone u)).mono λe m he=>?_) q F).keep.then ?_
  .grind
  .rintro g S ⟨⟨x,m,rfl,hl',v,c,j,u,t,y⟩,hkp⟩;let⟨g1,g2,g3,g4⟩:=r.qv u hl' hkp t;exact X _ j _ _ S ⟨x,c,y,g4,t.keep,Z,Z,Z⟩ g1 g2 g3 S.drawn
 .rintro z p L P ⟨x,c,t,y,h3,rfl,rfl,rfl⟩;exact M x c p t y h3
attribute [local go_sem ↓] Go.wp_at_zero Go.wp_at_succ
def Row(pv:List Nat)(H:y6)(g:Nat)(t:Ti)(n:Nat)(f:Nat->Vu):Prop:=g∈pv/\∃c,H g=.cells c t (0,0)/\c.size=n/\∀i,i<n->c[i]?=J (f i)
theorem Row.is{pv:List Nat}{H:y6}{n:Nat}{f:Nat->Vu}(h:Row pv H b c n f){v:Wd}(e:∀i∈pv,i<v.heap.size/\(Obj.oc (H i)->v.heap[i]?=J (H i))):v.rowIs b c n f:=by
 let⟨g,j,d,l,m⟩:=h;exact⟨j,by rw[(e b g).2 (by rw[d];trivial),d],l,m⟩
def P4(K:aa)(p:Nat):Array dQ:=#[Y U (K.S p 0),Y U (K.S p 1),Y U (K.S p 2),Y U (K.S p 3),Bo (K.B p 4),Y U (K.S p 5),Bo (K.B p 6),Y U (K.S p 7),Bo (K.B p 8),Y U (K.S p 9),Bo (K.B p 10),Y U (K.S p 11),Bo (K.B p 12),Y U (K.S p 13),Bo (K.B p 14),Y U (K.S p 15),Bo (K.B p 16),Y U (K.S p 17),Bo (K.B p 18),Y U (K.S p 19)]
theorem W3(K:aa)(p j:Nat)(b:j<20)(h:4<=j/\j<=18/\j%2=0):A6 K (p*20+j)=Bo (K.B p j):=by
 unfold A6;rw[nT Za,show(p*20+j) / 20=p by omega,show(p*20+j)%20=j by omega]
theorem DW(K:aa)(p:Nat):(cut (A6 K) (p*20) 20).toArray=P4 K p:=by
 unfold cut P4;simp only[aM,List.range.loop,List.map];rw[show A6 K (p*20+0)=_ from L9 K p 0 Za Za];rw[show A6 K (p*20+1)=_ from L9 K p 1 Za Za];rw[show A6 K (p*20+2)=_ from L9 K p 2 Za Za];rw[show A6 K (p*20+3)=_ from L9 K p 3 Za Za];rw[show A6 K (p*20+4)=_ from W3 K p 4 Za Za];rw[show A6 K (p*20+5)=_ from L9 K p 5 Za Za];rw[show A6 K (p*20+6)=_ from W3 K p 6 Za Za];rw[show A6 K (p*20+7)=_ from L9 K p 7 Za Za];rw[show A6 K (p*20+8)=_ from W3 K p 8 Za Za];rw[show A6 K (p*20+9)=_ from L9 K p 9 Za Za];rw[show A6 K (p*20+10)=_ from W3 K p 10 Za Za];rw[show A6 K (p*20+11)=_ from L9 K p 11 Za Za];rw[show A6 K (p*20+12)=_ from W3 K p 12 Za Za];rw[show A6 K (p*20+13)=_ from L9 K p 13 Za Za];rw[show A6 K (p*20+14)=_ from W3 K p 14 Za Za];rw[show A6 K (p*20+15)=_ from L9 K p 15 Za Za];rw[show A6 K (p*20+16)=_ from W3 K p 16 Za Za];rw[show A6 K (p*20+17)=_ from L9 K p 17 Za Za];rw[show A6 K (p*20+18)=_ from W3 K p 18 Za Za];rw[show A6 K (p*20+19)=_ from L9 K p 19 Za Za]
theorem c7f{f:Nat->Vu}{o:Nat}{v:Vu}(h:(cut f o b)[c]?=J v):c<b/\v=f (o+c):=by
 unfold cut at h;rw[bZ]at h
 by_cases e:c<b
 .rw[cY e]at h;exact⟨e,(Ze h).symm⟩
 .rw[fh (by simpa using e)]at h;cases h
theorem Gp{K d:aa}{l:Bool}(m:pk C R K pv H B l E e){i o:Nat}(h:Row pv H b 82 (d.nS*20) (A6 d))(u:i<d.nS)(p:o=i*20):vO e [] b o (P4 d i).toList:=by
 let⟨q,c,r,w,t⟩:=h;refine m.rk q r λj v g=>?_;rw[←DW]at g;obtain⟨x,rfl⟩:=c7f g;rw[p];exact t _ Za
theorem Row.same{f:Nat->Vu}{e:y6}(h:Row pv H b c d f)(g:e b=H b):Row pv e b c d f:=by
 let⟨j,l,m,p⟩:=h;exact⟨j,l,g.trans m,p⟩
def uy(b:aa):Nat->Nat->List Int->M ((Int×Int)×List Int)
 | 0,_,xs=>(sG 10).bind λe=>M.pure ((0,e),xs)
 | f+1,i,xs=>if b.S i 0=0 then(wG 5 xs.length i 0 0 xs).bind λz=>if z.1=7 then uy b f (i+1) z.2 else M.pure (((i:Int),z.1),z.2) else uy b f (i+1) xs
noncomputable def JI:List bm :=
 match Tryz.f119.body with
 | some (.seq _ (.seq (.seq _ (.block i (.loop c))) r))=>[.code c,.inLoop c,.inBlock i,.code r]
 | _=>[]
theorem SH(d:aa)(r:Nat)(hK:d.nS<=32)(h:Option Nat)(e':∀b,h=J b->b∈pv)(f':J r≠h)(u:y6)(W:Row pv u r 82 (d.nS*20) (A6 d))(R:Fm')(F:List Fm')(k:(Int×Int)×List Int->Bool->j6)(X:∀x e y p z q,Fr h pv p z y->(∀i∈pv,J i≠h->p i=u i)->i9 C n (k ((x,e),y) q) pv p z q (G (R.finish (.tuple #[Y U x,Y U e])) F)) :
  ∀(f i:Nat),i+f=d.nS->∀(g:List Int) (H:y6) (B:Vu),Fr h pv H B g->(∀i∈pv,J i≠h->H i=u i)->∀(E:Bool) a,pz 31 [(0,sv (pO C.o)),(10,sv (Sc (J (O r 0 Q)) d.nS d.nS)),(11,si d.nS),(12,si i)] a ->
  i9 C n ((uy d f i g).then E k) pv H B E (G ((aB 119).at a JI) (R::F)):=by
 intro f
 induction f with
 | zero =>
  intro i hi g H B hF m E a S;unfold uy;rw[M.fc];refine oE 5 S (λ_=>rfl) λa S=>?_;refine gu S Z (by simp;omega) ?_;refine oE 9 S (λ_=>rfl) λa S=>?_;refine gf S Z Z Z fH Z Z Z ?_;refine FY 10 λe q=>?_;rw[M.oA];refine gk S Z Z (si e) Z Z Z Z λa S=>?_;refine oE 9 S (λ_=>rfl) λa S=>?_;refine gz S jl Z Z Z ?_;exact X 0 e g H B q hF m
 | succ f ih =>
  intro i hi g H B hF m E a S;have g':i<d.nS:=by omega
  have h0:(0:Int)<=(i:Int)/\(i:Int)<(d.nS:Nat):=by omega
  unfold uy;refine oE 5 S (λ_=>rfl) λa S=>?_;refine gt S Z (by simp;omega) ?_;refine wF 40 [(P4 d i).toList] S (λ_=>rfl) (λl K un w St=>⟨⟨nQ,h0⟩,Gp St (W.same (m r W.1 f')) g' (aE _)⟩) λbx c t a A T hc S=>?_;refine xB A ?_;have nx:∀g H B E a,Fr h pv H B g->(∀i∈pv,J i≠h->H i=u i)->pz 31 [(0,sv (pO C.o)),(10,sv (Sc (J (O r 0 Q)) d.nS d.nS)),(11,si d.nS),(12,si (IntKind.i64.wrap ((i:Int)+1)))] a->i9 C n ((uy d f (i+1) g).then E k) pv H B E (G ((aB 119).at a JI) (R::F)):=λg H B E a hF m S=>by
   rw[W5 Za Za,show((i:Int)+1)=((i+1:Nat):Int) from by simp]at S;exact ih (i+1) Za g H B hF m E a S
  by_cases L:d.S i 0=0
  .rw[nT L,M.fc];refine gu S Z (by simp[L]) ?_;refine oE 9 S (λ_=>rfl) λa S=>?_;refine gf S Z Z Z eQ Z Z Z ?_;refine Hs hF e' 5 i 0 0 λe y p z q c' h'=>?_;have d':∀j∈pv,J j≠h->p j=u j:=λj A T=>(h' j A T).trans (m j A T);refine gk S Z Z (si e) Z Z Z Z λa S=>?_;refine oE 9 S (λ_=>rfl) λa S=>?_
   by_cases P:e=7
   .rw[nT P];refine gu S Z (by simp[P]) ?_;refine oE 7 S (λ_=>rfl) λa S=>?_;exact nx _ _ _ _ a c' d' (S.pC [0,10,11,12] Z)
   .rw[nR P,M.oA];refine gt S Z (by simp[P]) ?_;refine oE 9 S (λ_=>rfl) λa S=>?_;refine gz S jl Z Z Z ?_;exact X i e y p z q c' d'
  .rw[nR L];refine gt S Z (by simp[L]) ?_;refine oE 6 S (λ_=>rfl) λa S=>?_;exact nx _ _ _ _ a hF m (S.pC [0,10,11,12] Z)
abbrev CG(K:aa)(b c d:Nat):Sv:=.g [.v (Sc (J (O b 0 Q)) K.nF K.nF),.v (Sc (J (O c 0 Q)) K.nS K.nS),.v (Sc (J (O d 0 Q)) K.nD K.nD)]
theorem Yu(d:aa)(m g p:Nat)(w:d.nS<=32)(y:∀b,A=J b->b∈pv)(z:J g≠A)(K:Row pv H g 82 (d.nS*20) (A6 d)){h:List Int}(hF:Fr A pv H B h){j:Fm'}{F:List Fm'}{k:(Int×Int)×List Int->Bool->j6}(L:∀x e q l r u,Fr A pv l r q->(∀i∈pv,J i≠A->l i=H i)->i9 C n (k ((x,e),q) u) pv l r u (G (j.finish (.tuple #[Y U x,Y U e])) F)) :
  i9 C n ((uy d d.nS 0 h).then E k) pv H B E (G (ay V 119 #[pO C.o,rW d m g p] .normal) (j::F)):=by
 refine gn [sv (pO C.o),CG d m g p] jl Z Z Z Z λa S=>wF 16 [] S (λ_=>rfl) (λ_ _ _ _ _=>trivial) λR c t a P T W S=>xB P<|SH d g w A y z H K j F k L d.nS 0 Za h H B hF (λ_ _ _=>rfl) E a (S.pC [0,10,11,12] Z)
def vy(K:aa)(p:Nat):List Int:=I9 (λj=>K.S p (3+j*2)) 4
def uV(K:aa)(p:Nat):List Int:=I9 (λj=>K.S p (11+j*2)) 4
theorem JM(K:aa)(p:Nat)(w:Wd):aG V 121 #[.agg (P4 K p)] w λe c=>∃b,e=.returned b/\pK w c b (vy K p) :=
 c1F w _ _ _ _ _ _ _ _ _ _ _ _ (λj=>K.S p (3+j*2)) (K.B p 4) (K.B p 6) (K.B p 8) (K.B p 10)
theorem JU(K:aa)(p:Nat)(w:Wd):aG V 123 #[.agg (P4 K p)] w λe c=>∃b,e=.returned b/\pK w c b (uV K p) :=
 VR w _ _ _ _ _ _ _ _ _ _ _ _ (λj=>K.S p (11+j*2)) (K.B p 12) (K.B p 14) (K.B p 16) (K.B p 18)
theorem Am{f:bF}(S:Sg f=true){xs:List Int}(hx:xs.length<=40)(T:∀v:Wd,(∀i∈pv,i<v.heap.size/\(Obj.oc (H i)->v.heap[i]?=J (H i)))->aG V f h v λe u=>∃c,e=.returned c/\pK v u c xs){q:Fm'}{F:List Fm'}(W:∀(d:Sl) j l,d.xs=xs->d.xs.length<=d.cap->(d.blk=Q\/∃b,d.blk=J b/\b∈j)->d.ok (j++pv) l->(∀b∈j,b∉pv/\b≠C.o.bo)->(∀i∈pv,l i=H i)->i9 C n s (j++pv) l B E (G (q.finish d.val) F)) :
  i9 C n s pv H B E (G (ay V f h .normal) (q::F)):=by
 refine S3 S (R:=λx j l=>∃d:Sl,x=d.val/\d.xs=xs/\d.xs.length<=d.cap/\(d.blk=Q\/∃b,d.blk=J b/\b∈j)/\d.ok (j++pv) l) (λv w=>(T v w).mono ?_) q F ?_
 .rintro e u ⟨c,rfl,L⟩;have M:∀i∈pv,i<v.heap.size:=λi m=>(w i m).1;obtain⟨o1,X|⟨g,y,z,rfl,hg,hc,r,A,K,t⟩⟩:=L.own
  .obtain⟨rfl,h0⟩:=X;obtain rfl:xs=[]:=eI.1 h0;exact⟨_,[],H,Z,⟨L.oX.size,L.oX.block,λb p=>(by cases p),λ_ _=>rfl⟩,⟨Q,0,[]⟩,Z,Z,af _,.inl Z,by simp,.inl Z⟩
  .refine⟨_,[g],λk=>if k=g then .cells z 3 (0,0) else H k,Z,⟨L.oX.size,L.oX.block,λb p=>?_,λi m=>?_⟩,⟨J g,y,xs⟩,by simp[Sl.val],Z,r,(.inr ⟨g,Z,cD.2 Z⟩),(by show xs.length<=min 40 y;omega),.inr ⟨g,z,3,Z,by simp,by simp,λi x m=>?_⟩⟩
   .cases Zi p;exact⟨hg,by simpa using hc⟩
   .have:=M i m;show(if i=g then _ else H i)=H i;rw[nR Za]
   .have P:xs[i]?=J x:=m;have hl:i<xs.length:=(bj.1 P).1;have R:(vF xs)[i]?=J (Y U x):=by simp[vF,P]
    rw[←t,eV,nT Za]at R;simpa using R
 .rintro x j l ⟨d,rfl,r,A,K,t⟩ p hk;exact W d j l r A K t p hk
variable{g:Gr}
theorem b7u{q:y6}(r:∀i∈p,i∈pv)(y:∀i∈p,H i=q i)(h:i9 C n s p q B E g):i9 C n s pv H B E g:=by
 have u:∀ {l K c E w},pk C l K pv H B c E w->pk C l K p q B c E w:=by
  rintro l K c E w ⟨z,A,L⟩;refine⟨z,A.fewer (λi b=>?_) (ao ..) λ_ _=>rfl,λi b=>?_⟩
  .rcases ae.1 b with rfl|b
   .exact ao ..
   .exact ah _ (r i b)
  .let⟨R,W⟩:=L i (r i b);exact⟨R,by rw[W,y i b]⟩
 have x:∀ {e j},Sub (C.o.bo::pv) e j->Sub (C.o.bo::p) e j:=λh i b=>by
  rcases ae.1 b with rfl|b
  .exact h _ (ao ..)
  .exact h _ (ah _ (r i b))
 exact⟨λm l j e T K c w G t M S P d=>h.1 m l j e T K c w G (u t) M (x S) P d,λX l j e K c w t M S d=>h.2 X l j e K c w (u t) M (x S) d⟩
theorem U5{c:y6}(h:i9 C n s [] c B E g):i9 C n s pv H B E g:=b7u (λi b=>by cases b) (λi b=>by cases b) h
section
variable{b:Fm'}
theorem Ly{v:Vu}(h:I[i]?=J o)(j:o.guard=Q)(m:b.kind≠.early)(p:qG V (λ_=>false) [] false o.op=true)(q:∀l K c w d,pk C l K pv H B c E w->(Ex a.eval o).run V (w.at d)=.ok (.value v) (w.at d))(r:i9 C n s pv H B E (G (b.at (a.put o.dst v) (.inRegion I N::k)) F)):i9 C n s pv H B E (G (b.at a (.inRegion I (i::N)::k)) F) :=
 Ae (λl K c w Stop e t d=>Ic h (by unfold bR;rw[j]) m p e.clear (λd x u=>by rw[q l K c w d e];exact u _ _ ⟨Z,t d⟩) d) r
theorem SK{b0:Nat}{f:Nat×Nat}{ms:List Vu}{c:TypeDesc}(p:I[i]?=J o)(q:o.guard=Q)(r:b.kind≠.early)(e:o.op=.load x w)(t:a.eval w=Po (J (O b0 0 Q)))(u:b0∈pv)(z:H b0=.cells h y f)(A:∀(j:Nat) (v:Vu),ms[j]?=J v->h[j]?=J v)(L:V.underlying x=J c)(P:c.isRow=true)(R:(V.info? x).map (·.size)=J ms.length)(S:i9 C n s pv H B E (G (b.at (a.put o.dst (.agg ms.toArray)) (.inRegion I N::k)) F)):i9 C n s pv H B E (G (b.at a (.inRegion I (i::N)::k)) F):=by
 refine Ly p q r (by rw[e];rfl) (λl K X m d T=>?_) S;have W:(m.at d).rangeAt b0 0 ms:=λj v M=>by
  rw[aE];exact T.cell u z (A j v M)
 unfold Ex;simp only[e,t,Instr.loadAt,iF,bJ,eH,aQ,run_loadVar_mid (m.at d) b0 0 x ms c W L P R]
theorem S6{id:Nat}(q:V.follows .mixedOrders=true)(h:∀N,Ord I I.size (cx I.size false) N->i9 C n s pv H B E (G (b.at a (.inRegion I N::k)) F)) :
  i9 C n s pv H B E (G (b.at a (.code (.region id I true)::k)) F):=by
 refine⟨λm l c e T K j w r p M S P d=>?_,λu l c e K j w p M S d=>?_⟩
 .refine Bm (λt d=>?_) d;exact(h _ (xT q I t)).1 m l c e T K j w r p M S P d
 .refine Bm (λt d=>?_) d;exact(h _ (xT q I t)).2 u l c e K j w p M S d
end
end Go.Proofs.YtcgabodkegcpgaaGreatDoor
namespace Go.Proofs.YtcgabodkegcpgaaGreatDoor.App
open Go.RowKit
variable{a b c d:Nat}{e f g:Wd}{h i:Array Vu}{j k l m n:Vu}{o:Fm'}{p:List Nat}{q r:aN}{s:List Int}{t u:jx}{v w:aU}{x y:Ti}{z:mR}{A:Option Nat}{B C:Int}{D:Bool}{E F:aa}{H:List Vu}{I:Mem}{K:Array Bool}{L:Array aU}{N:Array Ti}{P:db}{R:List nY}{S:List eC}{T:List qc}{W:Vu->Wd->Prop}
theorem rD{P:Pg}(w:Wd)(base:Nat)(t s e:Ti)(i:iD)(z:Vu)(p bytes:Nat)(A:P.underlying t=J (.slice e))(B:P.info? e=J i)(I:i.zero=J z)(R:i.size=p)(S:i.bytes=bytes)(T:z.cells.size=p)(v:Vu)(n:Nat)(f:List Vu)(m:w.ownsRow base e p v n f)(a:cC)(c:Nat)(b:List Vu)(hl:b.length=p)(C:∀j u,b[j]?=J u->w.cell? (a.add j)=J u)(W:∀u∈b,u.oneCell'=true)(K:n+1<=gO)(D:aT (n+1) n*bytes<=281474976710656)(G:base<=w.heap.size) :
  ∃g d x,(mT #[t,t] s #[v,Sc (J a) 1 c]).run P w=.ok (Sc (J (O g 0 Q)) (n+1) d) x/\x.ownsRow base e p (Sc (J (O g 0 Q)) (n+1) d) (n+1) (f++b)/\w.grownBy x v.ownBlock/\(v.ownBlock=J g\/g=w.heap.size/\w.grownBy x Q):=by
 subst R;subst S;have o:b.length=1*i.size:=by omega
 have y:(f++b).length=(n+1)*i.size:=by rw[jG,m.1,o,lL]
 have b':n+1<=9223372036854775807:=by simp only[gO]at K;omega
 have L:∀(l:Nat),∀(N:Option Nat),
   (w.drew.alloc (.cells (f.toArray++b.toArray++mI z.cells (grownCap w (n+1) l e - (n+1))) e)).ownsRow base e i.size
    (Sc (J (O w.heap.size 0 Q)) (n+1) (grownCap w (n+1) l e)) (n+1) (f++b) /\
   w.grownBy (w.drew.alloc (.cells (f.toArray++b.toArray++mI z.cells (grownCap w (n+1) l e - (n+1))) e)) N:=by
  intro l N;have M:=grownCap_ge w (n+1) l e;have E:grownCap w (n+1) l e<=gO:=grownCap_le_maxLen w (n+1) l e K;refine⟨⟨y,.inr ⟨w.heap.size,_,_,Z,G,cE w.drew _,M,E,?_,?_⟩⟩,⟨Z,Z,Z,by simp,λk F _=>aK w.drew _ k F⟩⟩
  .simp only[Array.size_append,aR,size_zeroCells,T,m.1,o,←lL]
   congr 1
   omega
  .simp only[Array.toList_append,jH];rw[←jH,←y];exact List.take_left
 rcases m.2 with⟨rfl,rfl⟩|⟨g,d,cur,rfl,hbg,hg,hnc,E,hcs,htake⟩
 .have X:f=[]:=dM (by simpa using m.1);subst X;have r:=run_append_nil (P:=P) w t s e i z A B I a 1 c b o C Za Za (by rw[aE,nextslicecap_zero Za]at D;exact D);have h:=L 0 Q;simp only[aE,dS,Array.empty_append]at h ⊢;exact⟨_,_,_,r,h.1,h.2,ba ⟨Z,h.2⟩⟩
 .by_cases H:n+1<=d
  .have hf:n*i.size+b.length<=cur.size:=by rw[o,hcs,←lL];exact fQ _ H
   have r:=run_append_room (P:=P) w t s e i A B g n d cur hg a 1 c b o C W H hf;refine⟨_,_,_,r,⟨y,.inr ⟨g,d,_,Z,hbg,setRow_heap w g cur _ e _ hg,H,E,?_,?_⟩⟩,⟨Z,Z,Z,by simp,λk _ F=>setRow_other w g k _ λe=>F (by simp[Value.ownBlock,e])⟩,bT Z⟩
   .simp only[aR,jG,jF,hY,Array.length_toList];omega
   .rw[htake,←y];exact List.take_left
  .obtain rfl:d=n:=by omega
   have r:=run_append_grow (P:=P) w t s e i z A B I (O g 0 Q) d d f m.1 (m.cells (g:=g) Z) a 1 c b o C Za Za D;have h:=λq=>L d q;exact⟨_,_,_,r,(h Q).1,(h _).2,ba ⟨Z,(h Q).2⟩⟩
theorem pj(h:a<=7036874417568):aT (a+1) a<=8796093022152:=by
 unfold aT;split
 .omega
 .split
  .omega
  .rw[growBy_four]
   repeat' split
   all_goals omega
end Go.Proofs.YtcgabodkegcpgaaGreatDoor.App
namespace Go.Proofs.YtcgabodkegcpgaaGreatDoor
open Go.Conc Go.RowKit
variable{a b c d:Nat}{e f g:Wd}{h i:Array Vu}{j k l m n:Vu}{o:Fm'}{p:List Nat}{q r:aN}{s:List Int}{t u:jx}{v w:aU}{x y:Ti}{z:mR}{A:Option Nat}{B C:Int}{D:Bool}{E F:aa}{H:List Vu}{I:Mem}{K:Array Bool}{L:Array aU}{N:Array Ti}{P:db}{R:List nY}{S:List eC}{T:List qc}{W:Vu->Wd->Prop}
structure pH (t e size bytes:Nat):Prop where
 u:V.underlying t=J (.slice e)
 i:(V.info? e).map (λi=>(i.size,i.bytes,i.zero.map (·.cells.size)))=J (size,bytes,J size)
theorem Rp(a:j.cells=H.toArray)(b:h.size=H.length):dN (λi=>J (i*H.length,H.length)) h [(0,j)]=J H.toArray:=by
 unfold dN;simp only[Nat.zero_mul,a,aR];rw[nR (by simp;omega)];unfold dN
 congr 1
 rw[Array.zipIdx_toArray,List.foldl_toArray']
 .apply Array.ext_getElem?;intro c;let⟨d,e⟩:=FG 0 H 0 h
  grind
 .simp
theorem UY{a:db}{bytes:Nat}(h:pH b c H.length bytes)(d:0<H.length/\H.length<=100)(l:q.op=.buildSlice b 1 #[(0,v)])(m:a.eval v=j)(n:j.cells=H.toArray)(w:Wd)(f:Array dr) :
  (Ex a.eval q).runT V w f=(.ok (.value (Sc (J (O w.heap.size 0 Q)) 1 1)) (w.alloc (.cells H.toArray c (0,0))),f):=by
 let⟨o,e⟩:=h
 cases g:V.info? c with
 | none=>grind
 | some i =>
  rw[g]at e;simp only[aF,bz,cU]at e;let⟨p,s,t⟩:=e
  cases r:i.zero with
  | none=>grind
  | some z =>
   unfold Ex;simp only[l,jQ,underlying,sizeOf,zeroValue,typeInfo];have k:dN (λi=>J (i*H.length,H.length)) ((Array.range (1*H.length)).map (z.cells[·%z.cells.size]!)) [(0,j)]=J H.toArray:=Rp n Zc;simp[aP,o,g,r,p,m,newRow,newObj];rw[nR Za,nR (by intro c;rw[c]at d;simp at d)];rw[Nat.one_mul]at k;rw[k];refine⟨Z,λ_=>?_⟩;rw[nR (by intro c;rw[c]at d;simp at d)];rfl
variable{z:Bool}{sft:Nat->Nat}{Stop:Gr->Wd->Prop}{b:Fm'}{a:db}{ops:Array aN}{i:Nat}{o:aN}{F:List Nat}{k:List bm}{E:List Fm'}{w:Wd}
theorem c4N{R:Vu->Wd->Wd->Prop}(u:ops[i]?=J o)(A:o.guard=Q)(B:b.kind≠.early)(C:qG V (λ_=>false) [] true o.op=true)(D:Fit sft w)(H:∀d v,Lk sft v (w.at d)->∃x j,(Ex a.eval o).run V v=.ok (.value x) j/\R x v j)(h:∀d n v j x,Lk sft v (w.at d)->Lk sft j n->oP sft (w.at d) n->R x v j->iv V z true sft Stop (G (b.at (a.put o.dst x) (.inRegion ops F::k)) E) n) :
  iv V z true sft Stop (G (b.at a (.inRegion ops (i::F)::k)) E) w:=λI=>by
 refine C5 u (B7 A) B (λd W K=>?_) I;have L:G8 V (true=true) (u0 λf=>(λ_=>false:bF->Bool) f=true) (Ex a.eval o):=Dd (P:=V) (S:=λ_=>false) (meths:=[]) (st:=true) id (λf N=>by cases N) (λm P=>by cases P) (λv=>rfl) (λf=>rfl) o C;have g:Lk sft (su sft (w.at d) (w.at d).tape) (w.at d):=EG (w:=w.at d) D.soft nQ _;let⟨x,j,M,S⟩:=H d { su sft (w.at d) (w.at d).tape with drawn:=(w.at d).drawn } ⟨g.heap,g.soft,g.oc,g.os,g.output⟩;have t:Lk sft { su sft (w.at d) (w.at d).tape with drawn:=(w.at d).drawn } (w.at d):=⟨g.heap,g.soft,g.oc,g.os,g.output⟩;have p:=DX (sft:=sft) V (Ex a.eval o) (true=true) (v:={ su sft (w.at d) (w.at d).tape with drawn:=(w.at d).drawn }) (w:=w.at d) #[] ((Ex a.eval o).runT V (w.at d) #[]).1.world.drawn L t (λ_ _ _=>rfl) Za;have l:((Ex a.eval o).runT V { su sft (w.at d) (w.at d).tape with drawn:=(w.at d).drawn } #[]).1=.ok (.value x) j:=by simp_all
 have q:((Ex a.eval o).runT V (w.at d) #[]).1=(Ex a.eval o).run V (w.at d):=jr ..;have r:∀e∈mM V b.fn a o (w.at d),e∈((Ex a.eval o).runT V (w.at d) #[]).2:=λe s=>zJ s;revert p l q r;generalize (Ex a.eval o).runT V { su sft (w.at d) (w.at d).tape with drawn:=(w.at d).drawn } #[]=X;generalize (Ex a.eval o).runT V (w.at d) #[]=a';intro p l q r
 cases p with
 | @ok y v2 w2 es' c hp h1 h2 h3 h4 =>
  obtain⟨rfl,rfl⟩:=Result.ok.inj l
  have T:DL true sft (w.at d) w2 (mM V b.fn a o (w.at d)):=⟨h2,λe s=>(by
   rcases h3 e (r e s) with h|h
   all_goals grind),h4.all⟩
  rw[←q];exact K _ _ ⟨T,(h d w2 _ _ x t h1 h2 S) w2.drawn⟩
 | panic _ _ _ _=>cases l
 | lost _=>cases l
theorem DG{bytes:Nat}(d:c<=7036874417568)(e:bytes<=32):aT (c+1) c*bytes<=281474976710656:=by
 have:=App.pj d
 calc aT (c+1) c*bytes<=8796093022152*32:=Nat.mul_le_mul this e
  _<=_:=by decide
variable{f:bF}{t e bytes size B n:Nat}{x y:aU}{V:Vu}{xs cells:List Vu}
theorem Ep(h:pH t e cells.length bytes)(g:0<cells.length/\cells.length<=100)(j:ops[i]?=J o)(l:o.guard=Q)(m:o.op=.buildSlice t 1 #[(0,y)])(p:a.eval y=V)(q:V.cells=cells.toArray)(r:iv J' z true sft Stop (G ((aB f).at (a.put o.dst (Sc (J (O w.heap.size 0 Q)) 1 1)) (.inRegion ops F::k)) E) (w.alloc (.cells cells.toArray e (0,0)))):iv J' z true sft Stop (G ((aB f).at a (.inRegion ops (i::F)::k)) E) w:=by
 have c:=λd=>UY (a:=a) h g m p q (w.at d) #[];refine Dy (ob:=.cells cells.toArray e (0,0)) (v:=Sc (J (O w.heap.size 0 Q)) 1 1) j l (by show aX≠.early;decide) (λd=>?_) (λd=>congrArg Prod.snd (c d)) nQ r;have:=congrArg Prod.fst (c d);rw[jr]at this;exact this
theorem Cs(T:pH t e size bytes)(W:cells.length=size)(M:∀v∈cells,v.oneCell'=true)(hn:n<=7036874417568)(X:aT (n+1) n*bytes<=281474976710656)(ho:ops[i]?=J o)(A:o.guard=Q)(L:o.op=.call { callee:=.builtin .append,args:=#[x,y],argTypes:=#[t,t] })(ex:a.eval x=V)(ey:a.eval y=Sc (J (O c 0 Q)) 1 d)(N:w.heap[c]?=J (.cells cells.toArray e (0,0)))(c':sft c=0)(P:w.ownsRow B e size V n xs)(sf:∀g,V.ownBlock=J g->sft g=0)(hB:B<=w.heap.size)(d':Fit sft w)(n':∀k,w.heap.size<=k->sft k=0)(hx:∀g l m,m.ownsRow B e size (Sc (J (O g 0 Q)) (n+1) l) (n+1) (xs++cells)->w.heap.size<=m.heap.size->(∀k,k<w.heap.size->V.ownBlock≠J k->m.heap[k]?=w.heap[k]?)->Fit sft m->(V.ownBlock=J g\/g=w.heap.size/\∀k,k<w.heap.size->m.heap[k]?=w.heap[k]?)->sft g=0 ->
   iv J' z true sft Stop (G ((aB f).at (a.put o.dst (Sc (J (O g 0 Q)) (n+1) l)) (.inRegion ops F::k)) E) m):iv J' z true sft Stop (G ((aB f).at a (.inRegion ops (i::F)::k)) E) w:=by
 let⟨I,C⟩:=T;let⟨e',f',C⟩:=dF.1 C;simp only[cU]at C;let⟨i1,i2,i3⟩:=C;let⟨zv,h',i'⟩:=dF.1 i3;refine c4N (R:=λx v q=>∃g l,x=Sc (J (O g 0 Q)) (n+1) l/\q.ownsRow B e size (Sc (J (O g 0 Q)) (n+1) l) (n+1) (xs++cells)/\v.grownBy q V.ownBlock/\(V.ownBlock=J g\/g=v.heap.size/\v.grownBy q Q)) ho A (by show aX≠.early;decide) (by rw[L];rfl) d' (λr v p=>?_) λr m v q x p s R hR=>?_
 .have sv:v.heap.size=w.heap.size:=p.size;have hb:v.heap[c]?=J (.cells cells.toArray e (0,0)):=by
   rw[vV (w:=w.at r) p c' (.inl ⟨_,_,_,N⟩)];exact N
  have j':v.ownsRow B e size V n xs:=j5 P λg A=>vV (w:=w.at r) p (sf g A) (.inl (GR P A))
  let⟨g,l,q,k',D,H,K⟩:=App.rD (P:=J') v B t o.type e e' zv size bytes I f' h' i1 i2 i' V n xs j' (O c 0 Q) d cells W (λj u I=>by
   rw[eO,aE];simp only[aD,hb]
   simpa using I) M (by simp only[gO];omega) X Za
  refine⟨_,q,?_,g,l,Z,D,H,K⟩;unfold Ex;simp only[L,resolve,invoke,builtin,bJ,eH,aQ,du,cZ,eK,ex,ey,k']
 .obtain⟨g,l,rfl,D,H,K⟩:=hR;have sv:v.heap.size=w.heap.size:=p.size;have o':=s.size;have S:sft g=0:=by
   grind
  exact hx g l m (j5 D (λg' l'=>by
   obtain rfl:g=g':=Ze l'
   exact(vV s S (.inr (GR D Z))).symm)) (by have:=H.size;omega) (λk hk m'=>C7 (w:=w.at r) R p s (H.block k Za λe=>m' e.symm)) s.fit (K.imp_right λh=>⟨h.1.trans sv,λk hk=>C7 (w:=w.at r) R p s (h.2.block k Za λe=>by cases e)⟩) S
theorem Yw(D:Nat)(v:Sv)(c:m7):∃g,qU D v c=J g:=by
 unfold qU;split
 .exact⟨_,Z⟩
 .have:∀(c d:m7),∃e,tJ D c d=J e:=by
   intro c
   induction c with
   | nil=>exact λd=>⟨_,Z⟩
   | cons p r h =>
    intro d;unfold tJ;split
    all_goals simp_all
  let⟨e,j⟩:=this c []
  grind
structure pn (sft:Nat->Nat) (W:List Nat) (w0:Wd) (ρ:oN) (B e size:Nat) (V:Vu) (n:Nat) (xs:List Vu) (w:Wd):Prop where
 row:w.ownsRow B e size V n xs
 sf:∀g,V.ownBlock=J g->sft g=0
 wr:∀g,V.ownBlock=J g->g∈W\/w0.heap.size<=g
 ne:∀g,V.ownBlock=J g->∀i,i<ρ.length->(ox ρ i).1≠g
variable{W:List Nat}{K:Nat}{I:Wd}{ρ:oN}{H:Nat}{m:Mem}{P R:m7}
theorem pn.to(c:pn sft W I ρ B e size V n xs w){w':Wd}(h:∀g,V.ownBlock=J g->w'.heap[g]?=w.heap[g]?):pn sft W I ρ B e size V n xs w':=⟨j5 c.row h,c.sf,c.wr,c.ne⟩
theorem fx.skip(M:fx sft W K I ρ m H P a w)(h:tJ c P []=J R)(v:Vu):fx sft W K I ρ m H R (a.put (J c) v) w:=by
 have g:=λp d=>(BG h p d).resolve_right Zc;refine⟨⟨by simp[dK,M.lv.size],M.lv.defers,λp d=>?_⟩,M.ce,λp d=>M.wf p (g p d).1,M.bl,M.ij,M.own,M.size,M.old,M.fit,M.new⟩;let⟨t,v⟩:=p;obtain⟨s,j,rfl⟩:=s7.1 d;simp only[dK];rw[cX (aA (g _ j).2)];exact M.lv.has _ (s7.2 ⟨s,(g _ j).1,Z⟩)
theorem oh.alloc(g:Fit sft w)(h:Obj):oh sft [] w (w.alloc h) :=
 ⟨by simp,λk l _=>aK w _ k l,⟨λj p=>by
  let⟨c,t,d⟩:=g.soft j p
  exact⟨c,t,by rw[aK w _ j (Zj d).1];exact d⟩,nQ⟩⟩
theorem AP{i D t:Nat}{o:aN}{x y:aU}{sv:Sv}{l:List ou}(hK:pH t e size bytes)(M:fx sft W K I ρ m H P a w)(c:pn sft W I ρ B e size V n xs w)(hB:B<=I.heap.size)(hn:n<=7036874417568)(h':aT (n+1) n*bytes<=281474976710656)(ho:ops[i]?=J o)(hg:o.guard=Q)(i':o.op=.buildSlice t 1 #[(0,y)])(hd:o.dst=J d)(j':ops[i+1]?=J q)(k':q.guard=Q)(l':q.op=.call { callee:=.builtin .append,args:=#[x,.tmp d],argTypes:=#[t,t] })(m':q.dst=J D)(hy:ql P y=J sv)(hl:um sv=J l)(hz:(aI l.length size&&l.all uS&&cJ 0 size&&ga size 100&&cJ d H&&cJ D H)=true)(s:tJ d P []=J R)(hx:ql R x=J (.c (.v V)))(n':∀a' N g v b',oh sft V.ownBlock.toList w N->fx sft W K I ρ m H b' a' N->qU D (.c (.v (Sc (J (O g 0 Q)) (n+1) v))) R=J b'->pn sft W I ρ B e size (Sc (J (O g 0 Q)) (n+1) v) (n+1) (xs++l.map (·.den ρ)) N->(V.ownBlock=J g\/w.heap.size<=g/\oh sft [] w N)->iv J' z true sft Stop (G ((aB f).at a' (.inRegion ops p::k)) E) N) :
  iv J' z true sft Stop (G ((aB f).at a (.inRegion ops (i::(i+1)::p)::k)) E) w:=by
 simp only[aC,Nat.blt_eq,Nat.ble_eq]at hz;let⟨⟨⟨⟨⟨z1,z2⟩,z3⟩,z4⟩,z5⟩,z6⟩:=hz;have z1:=Zl z1;let⟨ey,r'⟩:=M.rd hy;let⟨ec,s'⟩:=xD (ρ:=ρ) hl;refine Ep (cells:=l.map (·.den ρ)) (by rw[bC,z1];exact hK) (by grind) ho hg i' ey ec ?_;have A:=oh.alloc M.fit (.cells (l.map (·.den ρ)).toArray e (0,0));have o':=cE w (.cells (l.map (·.den ρ)).toArray e (0,0));have t':(w.alloc (.cells (l.map (·.den ρ)).toArray e (0,0))).heap.size=w.heap.size+1:=by simp
 have C:=(M.still A).skip s (Sc (J (O w.heap.size 0 Q)) 1 1);rw[hd];have e1:(a.put (J d) (Sc (J (O w.heap.size 0 Q)) 1 1)).eval (.tmp d)=Sc (J (O w.heap.size 0 Q)) 1 1:=by
  show(a.put (J d) _).tmps.getD d Ud=_;rw[aY];simp[dK,M.lv.size,z5]
 have L:=c.to (w':=w.alloc (.cells (l.map (·.den ρ)).toArray e (0,0))) λg hg=>A.old g (j8 c.row hg).2 Zc;generalize w.alloc (.cells (l.map (·.den ρ)).toArray e (0,0))=w1 at *;generalize a.put (some d) (.slice (some ⟨w.heap.size,0,none⟩) 1 1)=a1 at *;have u':=M.size
 refine Cs (V:=V) hK (by rw[bC,z1]) (λu hu=>by
   obtain⟨y,hy,rfl⟩:=dn.1 hu
   exact zM (aV.1 z2 y hy)) hn h' j' k' l' (C.rd hx).1 e1 o' (M.new _ M.size) L.row L.sf Za C.fit (λk hk=>M.new k Za) λg v w2 O2 p' e' f' r q'=>?_
 have M2:fx sft W K I ρ m H R a1 w2:=C.to p' (λj S=>e' _ (R7 C S) λe=>L.ne _ e j S Z) (λj s h2=>e' j (Zg s C.size) (λe=>by
  rcases L.wr j e with h|h
  all_goals grind)) f'
 let⟨b',hp⟩:=Yw D (.c (.v (Sc (J (O g 0 Q)) (n+1) v))) R;rw[m'];refine n' _ w2 g v b' ⟨by omega,λj s h2=>?_,f'⟩ (M2.put (s:=.c (.v (Sc (J (O g 0 Q)) (n+1) v))) z6 nQ hp) hp ⟨O2,λT X=>?_,λT X=>?_,λT X j S=>?_⟩ (r.imp id λe=>⟨by omega,by omega,λj s _=>(e.2 j Za).trans (A.old j s Zc),f'⟩)
 .rw[e' j Za λe=>h2 (by rw[e];simp),A.old j s Zc]
 .obtain rfl:g=T:=Ze X;exact q'
 .obtain rfl:g=T:=Ze X;rcases r with r|r
  .exact L.wr g r
  grind
 .obtain rfl:g=T:=Ze X;rcases r with r|r
  .exact L.ne g r j S
  .have:=R7 C S;have:=r.1;omega
theorem Gj{i D t:Nat}{o:aN}{x y:aU}{sv:Sv}{l:List ou}(v:pH t e size bytes)(M:fx sft W K I ρ m H P a w)(c:pn sft W I ρ B e size V n xs w)(A:B<=I.heap.size)(u:n<=7036874417568)(C:bytes<=32)(L:ops[i]?=J o)(N:o.guard=Q)(S:o.op=.buildSlice t 1 #[(0,y)])(T:o.dst=J d)(X:ops[i+1]?=J q)(b':q.guard=Q)(c':q.op=.call { callee:=.builtin .append,args:=#[x,.tmp d],argTypes:=#[t,t] })(d':q.dst=J D)(hy:ql P y=J sv)(hl:um sv=J l)(hz:(aI l.length size&&l.all uS&&cJ 0 size&&ga size 100&&cJ d H&&cJ D H)=true)(h1:tJ d P []=J R)(hx:ql R x=J (.c (.v V)))(e':∀j h g r s,oh sft V.ownBlock.toList w h->fx sft W K I ρ m H s j h->qU D (.c (.v (Sc (J (O g 0 Q)) (n+1) r))) R=J s->pn sft W I ρ B e size (Sc (J (O g 0 Q)) (n+1) r) (n+1) (xs++l.map (·.den ρ)) h->(V.ownBlock=J g\/w.heap.size<=g)->iv J' z true sft Stop (G ((aB f).at j (.inRegion ops p::k)) E) h) :
  iv J' z true sft Stop (G ((aB f).at a (.inRegion ops (i::(i+1)::p)::k)) E) w :=
 AP v M c A u (DG u C) L N S T X b' c' d' hy hl hz h1 hx λj h g r s p M' hp O' og=>e' j h g r s p M' hp O' (og.imp_right (·.1))
structure Kq (ρ:oN) (w w':Wd):Prop where
 size:w.heap.size<=w'.heap.size
 old:∀k,k<w.heap.size->(∀i,i<ρ.length->(ox ρ i).1≠k)->w'.heap[k]?=w.heap[k]?
variable{w':Wd}{R:List bm}{S:Mem}{A:m7}{C:Prop}
theorem fx.kq{ρ2:oN}(N:fx sft ((ρ.drop K).map (·.1)) K w (ρ++ρ2) m H P a w'):Kq ρ w w':=⟨N.size,λk c d=>N.old k c λh=>by
 let⟨i,_,g,j⟩:=vP h
 exact d i g j⟩
theorem pn.kq(c:pn sft W I ρ B e size V n xs w)(h:Kq ρ w w'):pn sft W I ρ B e size V n xs w':=c.to λg d=>h.old g (j8 c.row d).2 λi j=>c.ne g d i j
theorem pn.hJ(c:pn sft W I ρ B e size V n xs w)(L:oh sft p w w')(h:∀g,V.ownBlock=J g->g∉p):pn sft W I ρ B e size V n xs w':=c.to λg d=>L.old g (j8 c.row d).2 (h g d)
theorem p8(n N:Nat)(d:pW)(M:fx sft W K I ρ m H P a w)(j:N=ρ.length)(h:sH w ((ρ.drop K).map (·.1)) K H n k ⟨m,P,N,d,True⟩=(R,⟨S,A,N,[],C⟩))(l:C)(p:∀c w',fx sft W K I ρ S H A c w'->Kq ρ w w'->iv J' z true sft Stop (G ((aB f).at c R) E) w'):iv J' z true sft Stop (G ((aB f).at a k) E) w :=
 iN n N d M.oo j h l λc w' g=>p c w' (M.vN g) (fx.kq (ρ2:=[]) (by rw[cH];exact g))
theorem fx.fresh{c:oN}(N:fx sft ((ρ.drop K).map (·.1)) K w (ρ++c) m H P a w'){i:Nat}(p:K<=ρ.length)(q:ρ.length<=i)(d:i<(ρ++c).length):w.heap.size<=(ox (ρ++c) i).1:=by
 rcases N.own i Za d with h|h
 .let⟨j,r,l,g⟩:=vP h;rw[←T6 ρ c j l]at g;exact absurd g.symm (N.ij i j d (by simp;omega) Za)
 .exact h
theorem QX(n N:Nat)(j:pW)(M:fx sft W K I ρ m H P a w)(r:N=ρ.length)(L:ga K N=true)(h:sH w ((ρ.drop K).map (·.1)) K H n k ⟨m,P,N,j,True⟩=(R,⟨S,A,N+2,[],C⟩))(s:C)(u:∀d w' b c,fx sft W K I (ρ++[(b,0),(c,0)]) S H A d w'->Kq ρ w w'->w.heap.size<=b->w.heap.size<=c->iv J' z true sft Stop (G ((aB f).at d R) E) w'):iv J' z true sft Stop (G ((aB f).at a k) E) w :=
 qp n N j M.oo r h s λd w' b c g=>by
  have l:K<=ρ.length:=by simp_all
  have p:=g.fresh (i:=ρ.length) l (af _) Zc;have q:=g.fresh (i:=ρ.length+1) l (Nat.le_succ _) Zc;have v:ox (ρ++[(b,0),(c,0)]) ρ.length=(b,0):=by
   have:=tM ρ (b,0);rw[show ρ++[(b,0),(c,0)]=(ρ++[(b,0)])++[(c,0)] by simp,T6 _ _ _ Zc];exact this
  have D:ox (ρ++[(b,0),(c,0)]) (ρ.length+1)=(c,0):=by
   have:=tM (ρ++[(b,0)]) (c,0)
   grind
  rw[v]at p;rw[D]at q;exact u d w' b c (M.rK g) g.kq p q
theorem pn.more(d:pn sft W I ρ B e size V n xs w){b:Nat}(p:w.heap.size<=b)(q:w.heap.size<=c):pn sft W I (ρ++[(b,0),(c,0)]) B e size V n xs w:=by
 refine⟨d.row,d.sf,d.wr,λg j i l=>?_⟩;have r:=(j8 d.row j).2
 by_cases h:i<ρ.length
 .rw[T6 _ _ _ h];exact d.ne g j i h
 .have:i<ρ.length+2:=by simpa using l
  obtain rfl|rfl:i=ρ.length\/i=ρ.length+1:=by omega
  .rw[show ρ++[(b,0),(c,0)]=(ρ++[(b,0)])++[(c,0)] by simp,T6 _ _ _ Zc,tM]
   grind
  .rw[show ρ++[(b,0),(c,0)]=(ρ++[(b,0)])++[(c,0)] by simp];have:=tM (ρ++[(b,0)]) (c,0)
   grind
theorem fx.BT(M:fx sft W K I ρ m H P a w){p:cC}(h:sM I W p j):sM w ((ρ.drop K).map (·.1)) p j :=
 ⟨Zg h.1 M.size,λc=>by
  let⟨i,d,l,q⟩:=vP c;rcases M.own i d l with g|g
  .exact h.2.1 (q▸g)
  .have:=h.1;omega,(Zf (w:=I) (M.old _ h.1 h.2.1)).trans h.2.2⟩
abbrev tc:=List (Nat×Option Sv)
def sN:tc->Nat->Option (Option Sv)
 | [],_=>Q
 | (i,v)::r,j=>match aI i j with
  | true=>J v
  | false=>sN r j
def CP(x:Nat×Option Sv)(y:Option Sv):Option Sv:=match x.2 with
 | some s=>J s
 | none=>y
def ug(xs:Nat->Option Sv):Nat->tc->tc
 | _,[]=>[]
 | q,x::r=>(x.1,CP x (xs q))::ug xs (q+1) r
def uv(xs:Nat->Option Sv)(s:Nat)(u:Option Sv)(q:Nat):Option Sv:=match aI q s with
 | true=>u
 | false=>xs q
theorem c2f{xs:Nat->Option Sv}{u:Option Sv}:uv xs c u c=u:=by unfold uv;rw[Nat.beq_refl]
theorem c8u{xs:Nat->Option Sv}{u:Option Sv}(h:d≠c):uv xs c u d=xs d:=by
 unfold uv;split
 all_goals simp_all
def El(ρ:oN):Option Sv->Vu
 | some s=>s.den ρ
 | none=>Ud
theorem HF{xs:Nat->Option Sv}:∀ {ch:tc} {b q:Nat},(ug xs b ch)[q]?=(ch[q]?).map λx=>(x.1,CP x (xs (b+q)))
 | [],b,q=>by simp[ug]
 | i::r,b,0=>by simp[ug]
 | i::r,b,q+1=>by
  simp only[ug,List.getElem?_cons_succ];rw[HF (ch:=r),show b+1+q=b+(q+1) by omega]
theorem Gb{xs:Nat->Option Sv}:∀ {d:tc} {b:Nat},sN (ug xs b d) c=Q↔sN d c=Q
 | [],b=>Iff.rfl
 | i::r,b=>by
  let⟨i,v⟩:=i;simp only[ug,sN];split
  .simp
  .exact Gb
def rL(c:tc):Nat->List (Option Sv)->List (Option Sv)
 | _,[]=>[]
 | i,v::r=>(match sN c i with|some none=>Q|_=>v)::rL c (i+1) r
theorem GJ{ch:tc}{j:Nat}:∀ {V:List (Option Sv)} {i:Nat},qi (rL ch i V) j=match sN ch (i+j) with|some none=>none|_=>qi V j
 | [],i=>by simp only[rL,qi];split<;>rfl
 | v::r,i=>by
  cases j with
  | zero=>rfl
  | succ j =>
   simp only[rL,qi];rw[GJ (V:=r),show i+1+j=i+(j+1) by omega]
theorem ON{c:tc}:∀ {V:List (Option Sv)} {i:Nat},(rL c i V).length=V.length
 | [],_=>rfl
 | v::r,i=>by simp[rL,ON (V:=r)]
def xA(I:Wd)(W:List Nat)(K n:Nat)(ops:Array aN)(d:Mem)(P:m7)(H:Nat)(g:tc):Nat->Nat->List (Option Sv)->pW->Prop->Option (List (Option Sv)×pW×Prop)
 | 0,_,V,qL,C=>J (V,qL,C)
 | f+1,i,V,qL,C=>match sN g i with
  | some v=>xA I W K n ops d P H g f (i+1) (V++[v]) qL C
  | none=>match uX I W K n ops d P H i V qL with
   | some (some v,[],orc',c)=>xA I W K n ops d P H g f (i+1) (V++[J v]) orc' (Aq C c)
   | _=>Q
theorem Gl{I:Wd}{W:List Nat}{K n:Nat}{ops:Array aN}{D:Mem}{P:m7}{H:Nat}{p:tc}:∀ {f i:Nat} {V d:List (Option Sv)} {l r:pW} {C g:Prop},V.length=i->xA I W K n ops D P H p f i V l C=J (d,r,g)->d.length=i+f/\(∀j,j<i->d[j]?=V[j]?)/\(g->C)/\∀j,i<=j->j<i+f->(∃v,sN p j=J v/\d[j]?=J v)\/(sN p j=Q/\∃X v q c,uX I W K n ops D P H j (d.take j) X=J (J v,[],q,c)/\d[j]?=J (J v)/\(g->Au c))
 | 0,i,V,d,l,r,C,g,hl,h=>by
  obtain⟨rfl,h1⟩:=ax (Ze h)
  grind
 | f+1,i,V,d,l,r,C,g,hl,h=>by
  have a':(∀j,j<i->d[j]?=V[j]?)->d.length=i+1+f->d.take i=V:=λL N=>by
   apply jV
   grind
  unfold xA at h;split at h
  .next v T =>
   let⟨N,s,u,G⟩:=Gl (by simp[hl]) h
   grind
  .next T =>
   split at h
   .next v o1 c ho =>
    let⟨N,s,u,G⟩:=Gl (by simp[hl]) h;have L:∀j,j<i->d[j]?=V[j]?:=λj M=>by rw[s j Za,mQ Za]
    refine⟨by omega,L,λh=>(yN (u h)).1,λj h1 h2=>?_⟩
    by_cases M:j=i
    .subst M;refine .inr ⟨T,l,v,o1,c,by grind,by rw[s j Za,lN Za,hl,Nat.sub_self];rfl,λh=>(yN (u h)).2⟩
    .exact G j Za Za
   .cases h
def AF(ops:Array aN):List Nat->Bool
 | i::j::r=>(match vj ops.toList j with|some o=>vR i o.after.toList|none=>false)&&AF ops (j::r)
 | _=>true
def EO:List Nat->Bool
 | []=>true
 | i::r=>(r.all λp=>!aI i p)&&EO r
theorem Hm{i:Nat}:∀ {d:List Nat},EO d=true->∀ {q c:Nat},d[q]?=J i->d[c]?=J i->q=c
 | [],_,q,c,h1,_=>by simp at h1
 | j::r,h,q,c,h1,h2=>by
  simp only[EO,aC]at h;have no:∀ {p:Nat},j=i->r[p]?≠J i:=λ{p} e g=>by
   subst e;have:=aV.1 h.1 _ (cP g);simp at this
  match q,c,h1,h2 with
  | 0,0,_,_=>rfl
  | 0,c+1,h1,h2=>grind
  | q+1,0,h1,h2=>grind
  | q+1,c+1,h1,h2=>exact congrArg (· + 1) (Hm h.2 h1 h2)
def AD(ops:Array aN)(c:List Nat):Bool:=ux ops&&(aM ops.size).all (λi=>((ops[i]?).map (·.after.all λe=>!cM .any e||decide (e.on<i))).getD true)&&AF ops c&&EO c&&c.all λp=>cJ p (uF ops.toList)
theorem CJ{i:Nat}{v:Option Sv}:∀ {c:tc},sN c i=J v->(i,v)∈c
 | (j,u)::r,h=>by
  unfold sN at h;split at h
  .simp_all
  .exact ah _ (CJ h)
theorem Hd{i:Nat}{u:Option Sv}:∀ {c:tc},sN c i=Q->(i,u)∉c
 | [],_,h=>by cases h
 | (j,y)::r,h,hm=>by
  unfold sN at h;split at h
  .cases h
  .next e =>
   rcases ae.1 hm with d|d
   .simp_all
   .exact Hd h d
theorem Mx{ops:Array aN}:∀ {c:List Nat},AF ops c=true->∀q i j,c[q]?=J i->c[q+1]?=J j->∃o,ops[j]?=J o/\(o.after.any λe=>cM .any e&&e.on==i)=true
 | [],h,q,i,j,h1,h2=>by simp at h1
 | [x],h,q,i,j,h1,h2=>by simp at h2
 | i'::j'::r,h,0,i,j,h1,h2=>by
  cases Ze h1;cases Ze h2;simp only[AF,aC,xN]at h;have h:=h.1;split at h
  .next o d=>exact⟨o,d,Ax h⟩
  .cases h
 | i'::j'::r,h,q+1,i,j,h1,h2=>by
  simp only[AF,aC]at h;exact Mx h.2 q i j h1 h2
def Iu(ops:Array aN)(c:List Nat):Bool:=match c.getLast? with
 | some l=>match ops[l]? with
  | some o=>(aM ops.size).all λj=>aI j l||(vR j o.after.toList||(aM ops.size).any λm=>vR m o.after.toList&&(match ops[m]? with|some p=>vR j p.after.toList|none=>false))
  | none=>false
 | none=>false
structure ZS (Pre:oN->Wd->Prop) (ops:Array aN) (ch:List Nat) (V:List (Option Sv)) (base:Array Vu) (listed:Array Bool) (s:Nat) (ρ:oN) (x:db×Wd):Prop where
 qT:pE ops (rq ρ V) base listed x.1
 pre:Pre ρ x.2
 ok:∀j,listed.getD j false=true->∀s,qi V j=J s->s.ok ρ.length
 le:s<=ch.length
 cc:∀(q i:Nat),ch[q]?=J i->(listed.getD i false=true↔q<s)
 cl:∀(j e:Nat) o,listed.getD j false=true->ops[j]?=J o->(o.after.any λd=>cM .any d&&d.on==e)=true->listed.getD e false=true
theorem NW{listed:Array Bool}{i:Nat}(l:i∈aW .any ops listed)(p:∀(j e:Nat) o,listed.getD j false=true->ops[j]?=J o->(o.after.any λd=>cM .any d&&d.on==e)=true->listed.getD e false=true)(j e:Nat)(o:aN)(c:(listed.setIfInBounds i true).getD j false=true)(g:ops[j]?=J o)(h:(o.after.any λd=>cM .any d&&d.on==e)=true):(listed.setIfInBounds i true).getD e false=true:=by
 rcases vK c with rfl|c
 .exact Z6 (k9 l g h)
 .exact Z6 (p j e o c g h)
theorem c6C{ρ2:oN}{V:List (Option Sv)}(h:∀s,qi V c=J s->s.ok ρ.length):rq (ρ++ρ2) V c=rq ρ V c:=by
 unfold rq;split
 .next s d=>exact Sv.oK ρ2 (h s d)
 .rfl
theorem BZ{id:Nat}{m0:Mem}{P A:m7}{N:Nat}(ch:tc)(qL:pW){V:(Nat->Option Sv)->List (Option Sv)}{C':Prop}(r':Bool)(n':Nat->(Nat->Option Sv)->oN->Wd->(Nat->Nat)×(Gr->Wd->Prop)->Prop)(M:fx sft W K I ρ m0 H P a w)(hN:N=ρ.length)(h:∀xs,xA I W K N ops m0 P H (ug xs 0 ch) (uF ops.toList) 0 [] qL True=J (V xs,[],C'))(hK:∀xs,rL ch 0 (V xs)=rL ch 0 (V λ_=>Q))(hE:uW ops H 0 (rL ch 0 (V λ_=>Q)) P=J A)(hB:(AD ops (ch.map (·.1))&&(!r'||Iu ops (ch.map (·.1))))=true)(hC:C')(hP:∀s xs X w' e,(r'=true->s<ch.length)->n' s xs (ρ++X) w' e->yJ (ρ++X) m0 w'/\∀k,k<I.heap.size->k∉W->w'.heap[k]?=I.heap[k]?)(h0:n' 0 (λ_=>Q) ρ w (sft,Stop))(hS:∀(s i:Nat) g,ch[s]?=J (i,g)->∀xs o a' w' X F e,ops[i]?=J o->n' s xs (ρ++X) w' e->a'.tmps.size=H->a'.defers=[]->(∀x sv,vl ops.toList (V xs) P H o x=J sv->a'.eval x=sv.den (ρ++X)) ->
   (∀e' m' w2 u,n' (s+1) (uv xs s u) (ρ++X++m') w2 e'->(g=Q\/u=g)->(∀sv,u=J sv->sv.ok (ρ++X++m').length)->iv J' z true e'.1 e'.2 (G ((aB f).at (a'.put o.dst (El (ρ++X++m') u)) (.inRegion ops F::k)) E) w2) ->
   iv J' z true e.1 e.2 (G ((aB f).at a' (.inRegion ops (i::F)::k)) E) w')(hx:∀xs X a' w' e,n' ch.length xs (ρ++X) w' e->qe H (qC (ρ++X) A) a'->(∀p∈A,p.2.ok (ρ++X).length)->iv J' z true e.1 e.2 (G ((aB f).at a' k) E) w'):iv J' z true sft Stop (G ((aB f).at a (.code (.region id ops true)::k)) E) w:=by
 generalize rL ch 0 (V λ_=>Q)=L at hK hE;simp only[AD,aC]at hB;let⟨⟨⟨⟨⟨c4,c5⟩,c6⟩,c7⟩,c8⟩,c9⟩:=hB;rw[ES ops]at h;have ve:=λxs=>Gl (i:=0) Z (h xs);simp only[aE]at ve;have known:∀xs j,sN ch j≠J Q->qi (V xs) j=qi L j:=λxs j hj=>by
  have e:=congrArg (λl=>qi l j) (hK xs);simp only[GJ,aE]at e;exact e
 have cm:∀ {q i:Nat},(ch.map (·.1))[q]?=J i↔∃g,ch[q]?=J (i,g):=λ{q i}=>by
  grind
 let⟨tm,df⟩:=a;obtain rfl:df=[]:=M.lv.defers;have E':tm.size=H:=M.lv.size;have s':∀fuel listed (x:(db×Wd)×(Nat->Nat)×(Gr->Wd->Prop)) F,Ord ops fuel listed F->(∃s xs X,ZS (λρ w=>n' s xs ρ w x.2) ops (ch.map (·.1)) (V xs) tm listed s (ρ++X) x.1)->iv J' z true x.2.1 x.2.2 (G ((aB f).at x.1.1 (.inRegion ops F::k)) E) x.1.2:=by
  refine Ee (λfu listed x i F hi T hO F'=>?_) λlisted x hno T=>?_
  .let⟨⟨a',w'⟩,e0⟩:=x;let⟨s,xs,X,T⟩:=T;let⟨v1,_,_,v4⟩:=ve xs;have t':=xE hi;have I':∀(o:aN) (L:List (Option Sv)),ops[i]?=J o->(∀j s,qi L j=J s->qi (V xs) j=J s)->∀x s,vl ops.toList L P H o x=J s->a'.eval x=s.den (ρ++X)/\s.ok (ρ++X).length:=λo L ho hU x s hs=>by
    unfold vl at hs;split at hs
    .next t =>
     split at hs
     .next hb =>
      have L':=xe hs;have w1:=M.wf _ L';refine⟨?_,Sv.pB Zc w1⟩;rw[Sv.oK X w1];exact T.qT.base (Jz hb) (M.lv.has _ (s7.2 ⟨s,L',Z⟩))
     .have s':∀ {l:List Edge},zu ops.toList L H t o l=J s->a'.eval (.tmp t)=s.den (ρ++X)/\s.ok (ρ++X).length:=by
       intro l
       induction l with
       | nil=>intro h;cases h
       | cons e r ih =>
        intro h;unfold zu at h;split at h
        .next hw =>
         have hj:=hU _ _ h;let⟨oj,g2,g3,g4,g5⟩:=Cz hw;have hl:=k9 hi ho g3;exact⟨T.qT.tmp g2 g4 hl Za (by unfold rq;rw[hj]),T.ok _ hl s hj⟩
        .exact ih h
      exact s' hs
    .cases Ze hs;exact⟨Z,nQ⟩
    .cases hs
   rcases v4 i (bh _) t' with⟨u,hu,N'⟩|⟨hu,oj,v,q,c,h1,N',hc⟩
   .
    let⟨q,u'⟩:=iz (CJ hu);rw[HF,aE]at u';let⟨⟨i',g⟩,hq,he⟩:=dF.1 u';clear u';obtain⟨rfl,rfl⟩:=ax he;have v':=cm.2 ⟨g,hq⟩;have hs:q=s:=by
     have n1:¬q<s:=λhlt=>vB hi ((T.cc q _ v').2 hlt)
     cases q with
     | zero=>omega
     | succ q =>
      cases hp:ch[q]? with
      | none=>grind
      | some j =>
       have O':=cm.2 ⟨j.2,hp⟩;let⟨o,ho,hb⟩:=Mx c6 q _ _ O' v';have:=(T.cc q _ O').1 (k9 hi ho hb);omega
    subst hs;have ho:=bE t';refine hS q i' g hq xs _ a' w' X F e0 ho T.pre (by rw[T.qT.size];exact E') T.qT.defs (λx sv hs=>(I' _ (V xs) ho (λ_ _ h=>h) x sv hs).1) λe1 m' w2 u hp hg hok=>?_;have vn:∀ys q' j g',ch[q']?=J (j,g')->qi (V ys) j=CP (j,g') (ys q'):=λys q' j g' hj=>by
     have P':=cm.2 ⟨g',hj⟩;have hjl:j<ops.size:=by
      have:=aV.1 c8 _ (cP P');rw[ES]at this;simpa using this
     rw[xv];rcases(ve ys).2.2.2 j (bh _) hjl with⟨v,h1,h2⟩|⟨h1,_⟩
     .rw[h2];let⟨q2,Q'⟩:=iz (CJ h1);rw[HF,aE]at Q';let⟨⟨j',g2⟩,p',he⟩:=dF.1 Q';obtain⟨rfl,rfl⟩:=ax he;have e:=Hm c7 P' (cm.2 ⟨g2,p'⟩)
      grind
     .exfalso;rw[Gb]at h1;exact Hd h1 (cP hj)
    have R':∀j,j≠i'->qi (V (uv xs q u)) j=qi (V xs) j:=λj hj=>by
     cases hl:sN ch j with
     | none=>grind
     | some v =>
      let⟨q2,p'⟩:=iz (CJ hl);rw[vn _ q2 j v p',vn _ q2 j v p',c8u λe=>?_]
      grind
    have nl:∀j,listed.getD j false=true->j≠i':=λj hj e=>by rw[e]at hj;exact vB hi hj
    have hvi:qi (V (uv xs q u)) i'=u:=by
     rw[vn _ q i' g hq,c2f];unfold CP
     grind
    have hv:rq (ρ++X++m') (V (uv xs q u)) i'=El (ρ++X++m') u:=by
     unfold rq;rw[hvi];cases u<;>rfl
    have ag:=(T.qT.val (V':=rq (ρ++X++m') (V (uv xs q u))) (λj hj=>by
     rw[←c6C (ρ:=ρ++X) (ρ2:=m') (T.ok j hj)];unfold rq
     rw[R' j (nl j hj)])).put c4 ho hv
    refine F' ((a'.put ops[i'].dst _,w2),e1) ⟨q+1,uv xs q u,X++m',?_⟩;rw[←jH];refine⟨ag,hp,λj hj s hs=>?_,by grind,λq' j o'=>?_,NW hi T.cl⟩
    .rcases vK hj with rfl|hj
     .grind
     .rw[R' j (nl j hj)]at hs;exact Sv.pB Zc (T.ok j hj s hs)
    .by_cases e:i'=j
     .subst e;have:=Hm c7 v' o';exact⟨λ_=>by omega,λ_=>zk hi⟩
     .have hne:q'≠q:=λh=>by grind
      have:=T.cc q' j o';refine⟨λh=>?_,λh=>Z6 (this.2 Za)⟩;have:=this.1 ((vK h).resolve_left (aA e));omega
   .
    have hc:=hc hC;have hls:r'=true->s<ch.length:=λhl=>by
     rw[hl]at c9;simp at c9;have hle:=T.le;rw[bC]at hle;rcases bU s ch.length with g|g
     .exact g
     .exfalso;unfold Iu at c9;split at c9
      case h_2=>cases c9
      case h_1 l hl' =>
      have o':(ch.map (·.1))[(ch.map (·.1)).length - 1]?=J l:=by grind
      have hpos:0<(ch.map (·.1)).length:=by
       grind
      have x':=(T.cc _ l o').2 (by grind);split at c9
      case h_2=>cases c9
      case h_1 o hol =>
      have:=aV.1 c9 i (eX.2 t');rcases da _ _▸this with h|h
      .rw[Zl h]at hi;exact vB hi x'
      rcases da _ _▸h with h|h
      .exact vB hi (T.cl l i o x' hol (Ax h))
      .let⟨m,_,h⟩:=jI.1 h;simp at h;have hm:=T.cl l m o x' hol (Ax h.1);have h:=h.2;split at h
       .next p hp=>exact vB hi (T.cl m i p hm hp (Ax h))
       .cases h
    have Ma:=hP s xs X w' e0 hls T.pre;have vi:qi (V xs) i=J v:=by rw[xv,N'];rfl
    unfold uX at h1;rw[xN]at h1;split at h1
    case h_2=>cases h1
    case h_1 o ho =>
    have rd2:=I' o ((V xs).take i) ho λj s h=>Dx h;have hnc:∀q',(ch.map (·.1))[q']?≠J i:=λq' h=>by
     let⟨g,h⟩:=cm.1 h;rw[Gb]at hu;exact Hd hu (cP h)
    have U':v.ok (ρ++X).length->iv J' z true e0.1 e0.2 (G ((aB f).at (a'.put o.dst (v.den (ρ++X))) (.inRegion ops F::k)) E) w':=λhok=>by
     have vv:rq (ρ++X) (V xs) i=v.den (ρ++X):=by unfold rq;rw[vi]
     have ag:=T.qT.put c4 ho vv;refine F' ((a'.put o.dst (v.den (ρ++X)),w'),e0) ⟨s,xs,X,ag,T.pre,λj hj s hs=>?_,T.le,λq' j o'=>?_,NW hi T.cl⟩
     .rcases vK hj with rfl|hj
      .grind
      .exact T.ok j hj s hs
     .have:=T.cc q' j o';refine⟨λh=>this.1 ((vK h).resolve_left λe=>?_),λh=>Z6 (this.2 h)⟩
      grind
    have V':∀b,Ar ops.toList ((V xs).take i) H o=J b->bR o (fA ops a'.tmps)=b:=λb hb=>by
     unfold Ar at hb;split at hb
     .next hg=>rw[B7 hg];exact Ze hb
     .next j y hg =>
      rw[xN]at hb;split at hb
      .next oj hj =>
       split at hb
       .next t ht =>
        split at hb
        .next hw =>
         split at hb
         .next x hxx =>
          let⟨oj',g2,g3,g4,g5⟩:=Cz hw;have hl:=k9 hi ho g3;have hv:=T.qT.done j oj t hj ht hl Za;unfold rq at hv;rw[Dx hxx]at hv;rw[Iz hg hj ht hv];exact Ze hb
         .cases hb
        .cases hb
       .cases hb
      .cases hb
    split at h1
    case h_3=>cases h1
    case h_1 hw =>
     split at h1
     case h_2=>cases h1
     case h_1 D hd =>
     let⟨p0,p1⟩:=ax (Ze h1);cases Ze p0;exact Hk ho (V' _ hw) (U' nQ)
    case h_2 hw =>
    split at h1
    case h_3=>cases h1
    case h_1 sv _ cv hv =>
     split at h1
     case h_2=>cases h1
     case h_1 D hd =>
     let⟨p0,p1⟩:=ax (Ze h1);cases Ze p0;let⟨_,p2⟩:=ax p1;obtain⟨_,rfl⟩:=ax p2;have ov:=λd=>FM (w:=w'.at d) rd2 Ma.1 Ma.2 hv hc;exact xm ho (V' _ hw) (by show aX≠.early;decide) (ov 0).1.2 (λd=>(ov d).1.1) (U' (ov 0).2)
    grind
  .let⟨⟨a',w'⟩,e0⟩:=x;let⟨s,xs,X,T⟩:=T;let⟨v1,_,_,v4⟩:=ve xs;have y':=V0 c5 T.qT.len hno;have Z':∀j s,L[j]?=J (J s)->qi (V xs) j=J s:=λj s h=>by
    have hu:qi L j=J s:=by rw[xv,h];rfl
    rw[←hK xs,GJ]at hu
    grind
   have hU:L.length=ops.size:=by rw[←hK xs,ON];exact v1
   have hs:s=ch.length:=by
    rcases bU s (ch.map (·.1)).length with g|g
    .exfalso;have hq:=br g;have hb:=aV.1 c8 _ (cP hq);rw[ES]at hb;exact absurd ((T.cc s _ hq).1 (y' _ (by simpa using hb))) (iO s)
    .have:=T.le;grind
   subst hs;have ev:=BK hE;refine i8 (hx xs X a' w' e0 T.pre ⟨by rw[T.qT.size];exact E',T.qT.defs,λp hp=>?_⟩ λp hp=>?_)
   .let⟨t,v⟩:=p;obtain⟨s,h1,rfl⟩:=s7.1 hp;rcases ev _ h1 with⟨j,o,_,g1,g2,g3,g4⟩|⟨g1,g2⟩
    .have g4:=Z' j s g4;have hv:=T.qT.done j o t g1 g2 (y' j (Zj g1).1) Za;unfold rq at hv
     grind
    .rw[T.qT.still t λj o ho hd=>?_]
     .show tm[t]?=J (s.den (ρ++X));rw[Sv.oK X (M.wf _ g1)];exact M.lv.has _ (s7.2 ⟨s,g1,Z⟩)
     grind
   .rcases ev _ hp with⟨j,o,_,g1,g2,g3,g4⟩|⟨g1,g2⟩
    .exact T.ok j (y' j (Zj g1).1) _ (Z' j _ g4)
    .exact Sv.pB Zc (M.wf _ g1)
 refine λd0=>Bm (λt d=>?_) d0;refine s' _ _ ((⟨tm,[]⟩,w),sft,Stop) _ (xT Zd ops t) ⟨0,λ_=>Q,[],?_⟩ d;rw[cH];exact⟨pE.start ops _ tm,h0,λj hj=>(by rw[V9]at hj;cases hj),bh _,λq i hq=>⟨λhj=>(by rw[V9]at hj;cases hj),λh=>by omega⟩,λj e o hj=>(by rw[V9]at hj;cases hj)⟩
theorem vz{id:Nat}{r:Mem}{P A:m7}(l:tc)(N:pW){V:(Nat->Option Sv)->List (Option Sv)}{C':Prop}(v:Bool)(q:Nat->(Nat->Option Sv)->oN->Wd->Prop)(M:fx sft W K I ρ r H P a w)(X:c=ρ.length)(h:∀xs,xA I W K c ops r P H (ug xs 0 l) (uF ops.toList) 0 [] N True=J (V xs,[],C'))(hK:∀xs,rL l 0 (V xs)=rL l 0 (V λ_=>Q))(hE:uW ops H 0 (rL l 0 (V λ_=>Q)) P=J A)(hB:(AD ops (l.map (·.1))&&(!v||Iu ops (l.map (·.1))))=true)(hC:C')(hP:∀s xs d w' j,(v=true->s<l.length)->q s xs (ρ++d) w'->j.tmps.size=H->j.defers=[]->fx sft W K I (ρ++d) r H [] j w')(h0:q 0 (λ_=>Q) ρ w)(hS:∀(s i:Nat) g,l[s]?=J (i,g)->∀xs o j w' d F,ops[i]?=J o->q s xs (ρ++d) w'->fx sft W K I (ρ++d) r H [] j w'->(∀x sv,vl ops.toList (V xs) P H o x=J sv->j.eval x=sv.den (ρ++d)) ->
   (∀D T u,q (s+1) (uv xs s u) (ρ++d++D) T->(g=Q\/u=g)->(∀sv,u=J sv->sv.ok (ρ++d++D).length)->iv J' z true sft Stop (G ((aB f).at (j.put o.dst (El (ρ++d++D) u)) (.inRegion ops F::k)) E) T) ->
   iv J' z true sft Stop (G ((aB f).at j (.inRegion ops (i::F)::k)) E) w')(hx:∀xs d j w',q l.length xs (ρ++d) w'->qe H (qC (ρ++d) A) j->(∀p∈A,p.2.ok (ρ++d).length)->iv J' z true sft Stop (G ((aB f).at j k) E) w'):iv J' z true sft Stop (G ((aB f).at a (.code (.region id ops true)::k)) E) w:=by
 refine BZ (N:=c) l N v (λs xs c' w' e=>q s xs c' w'/\e=(sft,Stop)) M X h hK hE hB hC (λs xs d w' e hl L=>?_) ⟨h0,Z⟩ (λs i g hs xs o j w' d F e ho L h1 h2 rd hn=>?_) λxs d j w' e L h1 h2=>?_
 .have:=hP s xs d w' ⟨cx H Ud,[]⟩ hl L.1 Zc Z;exact⟨this.ce,this.old⟩
 all_goals grind
theorem fx.re{m:Mem}{P A:m7}{c:db}(M:fx sft W K I ρ m H P a w)(h:qe H (qC ρ A) c)(d:∀p∈A,p.2.ok ρ.length):fx sft W K I ρ m H A c w:=⟨h,M.ce,d,M.bl,M.ij,M.own,M.size,M.old,M.fit,M.new⟩
end Go.Proofs.YtcgabodkegcpgaaGreatDoor
namespace Go.Proofs.YtcgabodkegcpgaaGreatDoor
open Go.Conc Go.RowKit
variable{a b c d:Nat}{e f g:Wd}{h i:Array Vu}{j k l m n:Vu}{o:Fm'}{p:List Nat}{q r:aN}{s:List Int}{t u:jx}{v w:aU}{x y:Ti}{z:mR}{A:Option Nat}{B C:Int}{D:Bool}{E F:aa}{H:List Vu}{I:Mem}{K:Array Bool}{L:Array aU}{N:Array Ti}{P:db}{R:List nY}{S:List eC}{T:List qc}{W:Vu->Wd->Prop}
structure CD (B0:Nat) (sft:Nat->Nat) (w10 w':Wd) (Dp:Vu) (m:Nat) (xs:List Vu) (g cap:Nat):Prop where
 row:w'.ownsRow B0 92 5 (Sc (J (O g 0 Q)) m cap) m xs
 size:w10.heap.size<=w'.heap.size
 old:∀k,k<w10.heap.size->Dp.ownBlock≠J k->w'.heap[k]?=w10.heap[k]?
 fit:Fit sft w'
 og:Dp.ownBlock=J g\/g=w10.heap.size
 g0:sft g=0
abbrev Pu:=CD 0
variable{A sft':Nat->Nat}{W:List Nat}{ro:Nat}{I w z:Wd}{ρ:oN}{sz:Nat}{a:db}{H:Array aN}{C:Bool}{Stop:Gr->Wd->Prop}{f:bF}{k:List bm}{F:List Fm'}{m P:Mem}{B K:m7}
def F3(A:Nat->Nat)(w:Wd)(k:Nat):Prop:=(∃c t,w.heap[k]?=J (.cells c t (0,0)))/\A k=0
theorem F3.lt{k:Nat}(h:F3 A w k):k<w.heap.size:=by
 let⟨⟨c,t,e⟩,_⟩:=h;exact(Zj e).1
theorem F3.of{k:Nat}(h:F3 A w k)(e:z.heap[k]?=w.heap[k]?):F3 A z k:=⟨by rw[e];exact h.1,h.2⟩
theorem F3.soft{k:Nat}(h:F3 A w k)(b:sft' k=0):F3 sft' w k:=⟨h.1,b⟩
theorem fx.oV{K:m7}(M:fx A W ro I ρ m sz B a w)(n:Nat)(b:List Nat)(e:n=ρ.length)(c:vx n B b=J K):fx A W ro I ρ m sz K a w:=M.fewer (λp d=>(yX c p d).1) λ_ h=>h
theorem Bh{C:Bool}{f:bF}{R:Vu->Wd->Prop}(c:∀b F d,l6 V C (DL true A) (λg z=>∃x,g=G (b.finish x) F/\R x z) (G (ay V f h .normal) (b::F)) (w.at d)):py C A f h w R:=λStop b F e=>NQ (λd=>c b F d) λg z i=>by
 obtain⟨x,rfl,j⟩:=i;exact e x z j
theorem xQ(l:Fit A w){f:bF}(o:Sg f=true){R:Vu->Wd->Wd->Prop}{i:Vu->Wd->Prop}(p:∀d v,Lk A v (w.at d)->aG V f h v λe b=>∃x,e=.returned x/\R x v b)(q:∀d x v b z,Lk A v (w.at d)->Lk A b z->oP A (w.at d) z->R x v b->i x z):py C A f h w i:=λStop n F r =>
 NQ (Stop':=λg z=>∃x,g=G (n.finish x) F/\i x z) (λd=>by
  refine(xC xa (sft:=A) (w0:=w.at d) o ⟨l.soft,l.clear⟩ C (Q:=λx b=>∃v,Lk A v (w.at d)/\R x v b) (λv c=>(p d v c).mono λe b s=>by
   obtain⟨x,rfl,t⟩:=s
   exact⟨v,c,t⟩) n F).keep.mono (λ_ _ _ j=>j) ?_
  rintro g z ⟨⟨x,b,rfl,hl',v,c,hr⟩,hkp⟩
  exact⟨x,Z,q d x v b z c hl' hkp hr⟩) λg z j=>by
  obtain⟨x,rfl,u⟩:=j;exact r x z u
theorem oP.cells(c:oP A w z){k:Nat}{f:Nat×Nat}(e:w.heap[k]?=J (.cells h x f)):∃b,z.heap[k]?=J (.cells b x f):=by
 let⟨i,d,g⟩:=c.same k _ e;obtain⟨b,rfl,_⟩:=g;exact⟨b,d⟩
theorem fx.wrote(M:fx A W ro I ρ m sz B a w)(L:oh A [b] w z)(d:b∈W\/I.heap.size<=b)(g:∀i,i<ρ.length->(ox ρ i).1≠b):fx A W ro I ρ m sz B a z :=
 M.to L.size (λi c=>L.old _ (R7 M c) (by simpa using g i c)) (λk j l=>L.old k (Zg j M.size) (by
  simp only[cD];intro e;subst e;rcases d with h|h
  .exact l h
  .omega)) L.fit
theorem fx.bare(M:fx A W ro I ρ m sz B a w){b:db}(c:b.tmps.size=sz)(d:b.defers=[]):fx A W ro I ρ m sz [] b w:=(M.fewer (λ_ h=>(by cases h)) λ_ h=>h).act (by rw[c,M.lv.size]) d
theorem fx.pI(M:fx A W ro I ρ m sz B a w){W':List Nat}(h:∀k∈W,k∈W'):fx A W' ro I ρ m sz B a w:=⟨M.lv,M.ce,M.wf,M.bl,M.ij,λi b c=>(M.own i b c).imp_left (h _),M.size,λk b c=>M.old k b λd=>c (h k d),M.fit,M.new⟩
theorem yI{g:Nat}{y:aU}{sv:Sv}{l:List ou}(M:fx A W ro I ρ m sz B a w)(s:H[b]?=J q)(t:q.guard=Q)(u:q.op=.store c v y)(x:q.dst=Q)(D:ql B v=J (.c (.v (Po (J (O d g Q))))))(E:ql B y=J sv)(L:um sv=J l)(N:(V.info? c).map (·.size)=J l.length)(R:l.all uS=true)(S:F3 A w d)(T:d∈W\/I.heap.size<=d)(X:∀b,b<ρ.length->(ox ρ b).1≠d)(a':∀e,e<l.length->(w.cell? (O d (g+e) Q)).isSome=true)(i:∀z,oh A [d] w z->F3 A z d->(∀e j,l[e]?=J j->z.cell? (O d (g+e) Q)=J (j.den ρ))->(∀e,e<g\/g+l.length<=e->z.cell? (O d e Q)=w.cell? (O d e Q))->fx A W ro I ρ m sz B a z->iv V C true A Stop (G ((aB f).at a (.inRegion H p::k)) F) z):iv V C true A Stop (G ((aB f).at a (.inRegion H (b::p)::k)) F) w:=by
 let⟨ey,b'⟩:=M.rd E;let⟨ec,c'⟩:=xD (ρ:=ρ) L;let⟨⟨c0,t0,hb⟩,n⟩:=S;refine wN M.lv s t u x hb n M.fit (M.rd D).1 ey ec (by rw[bC];exact N) (λd' hv=>?_) (λe h=>?_) λo s1 s2 s3 s4 s5 s6=>?_
 .obtain⟨v,i,rfl⟩:=dn.1 hv;exact zM (aV.1 R v i)
 .rw[bC]at h;exact a' e h
 .have r:oh A [d] w o:=⟨by omega,λk _ hk=>s2 k (by simpa using hk),s6⟩;exact i o r ⟨s3,n⟩ (λe j hc=>s4 e _ (by rw[bZ,hc];rfl)) (λe h=>s5 e (by rw[bC];exact h)) (M.wrote r T X)
theorem TO{g:Nat}{y:aU}{sv:Sv}{l:List ou}(M:fx A W ro I ρ m sz B a w)(t:H[b]?=J q)(u:q.guard=Q)(D:q.op=.store c v y)(E:q.dst=Q)(L:ql B v=J (.c (.v (Po (J (O d g Q))))))(N:ql B y=J sv)(R:um sv=J l)(S:(V.info? c).map (·.size)=J l.length)(T:l.all uS=true)(X:w.heap[d]?=J (.cells h x (0,0)))(a':A d=0)(hW:d∈W\/I.heap.size<=d)(b':∀b,b<ρ.length->(ox ρ b).1≠d)(c':∀e,e<l.length->(w.cell? (O d (g+e) Q)).isSome=true)(n:∀z i,oh A [d] w z->z.heap[d]?=J (.cells i x (0,0))->i.size=h.size->(∀e o,l[e]?=J o->z.cell? (O d (g+e) Q)=J (o.den ρ))->(∀e,e<g\/g+l.length<=e->z.cell? (O d e Q)=w.cell? (O d e Q))->fx A W ro I ρ m sz B a z->iv V C true A Stop (G ((aB f).at a (.inRegion H p::k)) F) z):iv V C true A Stop (G ((aB f).at a (.inRegion H (b::p)::k)) F) w:=by
 let⟨ey,d'⟩:=M.rd N;let⟨ec,e'⟩:=xD (ρ:=ρ) R;refine zi M.lv t u D E X a' M.fit (M.rd L).1 ey ec (by rw[bC];exact S) (λf' hv=>?_) (λe j=>?_) λr s1 s2 s3 s4 s5 s6=>?_
 .obtain⟨v,n,rfl⟩:=dn.1 hv;exact zM (aV.1 T v n)
 .rw[bC]at j;exact c' e j
 .have s:oh A [d] w r:=⟨by omega,λk _ hk=>s2 k (by simpa using hk),s6⟩;let⟨i,e1,e2⟩:=s3;exact n r i s e1 e2 (λe o hc=>s4 e _ (by rw[bZ,hc];rfl)) (λe j=>s5 e (by rw[bC];exact j)) (M.wrote s hW b')
theorem CF{d:mR}{e:Vu->Wd->Prop}(i:py C A c h w e)(g:H[b]?=J q)(j:q.guard=Q)(l:q.op=.call { callee:=.value (.func c),args:=L,argTypes:=N })(n:V.funcs[c]?=J d)(o:(d.name== "runtime.NumGoroutine")=false)(r:d.body=J t)(s:L.map a.eval=h)(u:∀x z,e x z->iv V C true A Stop (G ((aB f).at (a.put q.dst x) (.inRegion H p::k)) F) z):iv V C true A Stop (G ((aB f).at a (.inRegion H (b::p)::k)) F) w:=by
 refine zb g (B7 j) (by show aX≠.early;decide) l n o r ?_;rw[s];refine i Stop _ F λx z v=>?_;rw[zC g];exact u x z v
theorem An{A:Nat->Nat}{W:List Nat}{ro:Nat}{I w:Wd}{ρ:oN}{sz:Nat}{a:db}{H:Array aN}{C:Bool}{Stop:Gr->Wd->Prop}{f:bF}{k:List bm}{F:List Fm'}{m:Mem}{B K:m7}{op:Op}(v:Sv)(M:fx A W ro I ρ m sz B a w)(i:H[b]?=J q)(j:Cx H B q=J true)(e:q.op=op)(l:qG V (λ_=>false) [] false op=true)(n:q.dst=J c)(o:cJ c sz=true)(r:qU c v B=J K)(s:v.ok ρ.length)(t:∀(g:aN) (u:Wd),g.op=op->u.heap=w.heap->(Ex a.eval g).run V u=.ok (.value (v.den ρ)) u)(x:∀h,fx A W ro I ρ m sz K h w->iv V C true A Stop (G ((aB f).at h (.inRegion H p::k)) F) w):iv V C true A Stop (G ((aB f).at a (.inRegion H (b::p)::k)) F) w:=by
 refine xm i (Ha (s:=⟨m,B,0,[],True⟩) M j) (by show aX≠.early;decide) (by rw[e];exact l) (λd=>t q _ e Z) ?_;rw[n];exact x _ (M.put (by simpa using o) s r)
theorem zV{A:Nat->Nat}{W:List Nat}{ro:Nat}{ρ:oN}{m:Mem}{w:Wd}{sz:Nat}{C:Bool}{Stop:Gr->Wd->Prop}{F:List Fm'}{f:bF}{c:mR}(b:List Sv)(E:zt A W ro ρ m w)(l:∀s∈b,s.ok ρ.length)(n:V.funcs[f]?=J c)(q:c.body=J t)(r:c.ntmps=sz)(u:ga b.length sz=true)(h:∀a,fx A W ro w ρ m sz (wR 0 b) a w->iv V C true A Stop (G ((aB f).at a [.code t]) (o::F)) w):iv V C true A Stop (G (ay V f (b.map (·.den ρ)).toArray .normal) (o::F)) w:=by
 let⟨a,e,x⟩:=IU (env:=qC ρ (wR 0 b)) (args:=(b.map (·.den ρ)).toArray) n q r (by simpa using u) (λp d=>by
  let⟨y,v⟩:=p;obtain⟨s,g,rfl⟩:=s7.1 d;let⟨_,j⟩:=yi g;simp only[List.getElem?_toArray,bZ];rw[show b[y]?=_ from j]
  rfl)
 rw[e];exact h a ⟨x,E.ce,λp d=>l _ (cP (yi d).2),E.bl,E.ij,λi g j=>.inl (E.own i g j),af _,λ_ _ _=>rfl,E.fit,E.new⟩
theorem fx.oO{A sft':Nat->Nat}{W:List Nat}{ro:Nat}{I w z:Wd}{ρ:oN}{sz:Nat}{a:db}{m:Mem}{B K:m7}(M:fx A W ro I ρ m sz B a w)(g:List Nat)(l:vx 0 B g=J K)(n:Fit sft' z)(o:∀k,z.heap.size<=k->sft' k=0):fx sft' [] 0 z [] [] sz K a z:=by
 have b:=yX l;refine⟨⟨M.lv.size,M.lv.defers,λp c=>?_⟩,λe h=>(by cases h),λp c=>(b p c).2,λi h=>(by cases h),λi j h=>(by cases h),λi _ h=>(by cases h),af _,λ_ _ _=>rfl,n,o⟩;let⟨t,v⟩:=p;obtain⟨s,d,rfl⟩:=s7.1 c;have:=M.lv.has _ (s7.2 ⟨s,(b _ d).1,Z⟩);rw[show s.den ρ=s.den [] from by have:=Sv.oK (ρ:=[]) ρ (b _ d).2;rwa [dS]at this]at this;exact this
theorem xW{g:mR}{vs:List Vu}{Post:Vu->Wd->(Nat->Nat)×(Gr->Wd->Prop)->Prop}(M:fx A W ro I ρ m sz B a w)(l:∀h i,(∀x z e,Post x z e->iv V C true e.1 e.2 (G (h.finish x) i) z)->iv V C true A Stop (G (ay V d vs.toArray .normal) (h::i)) w)(j:H[b]?=J q)(n:q.guard=Q)(o:q.op=.call { callee:=.value (.func d),args:=L,argTypes:=N })(r:V.funcs[d]?=J g)(s:(g.name== "runtime.NumGoroutine")=false)(u:g.body=J t)(v:(L.toList.map λx=>(ql B x).map (·.den ρ))=vs.map J)(y:q.dst=J c)(D:∀x z e,Post x z e->iv V C true e.1 e.2 (G ((aB f).at (a.put (J c) x) (.inRegion H p::k)) F) z):iv V C true A Stop (G ((aB f).at a (.inRegion H (b::p)::k)) F) w:=by
 refine zb j (B7 n) (by show aX≠.early;decide) o r s u ?_;have e:L.map a.eval=vs.toArray:=by
  rw[←ir (xs:=L.map a.eval),gM,Cn M v]
 rw[e];refine l _ F λx z e E=>?_;rw[zC j,y];exact D x z e E
theorem fx.next{A sft':Nat->Nat}{W:List Nat}{ro sz:Nat}{I w z:Wd}{ρ:oN}{m:Mem}{B K:m7}{a d:db}(M:fx A W ro I ρ m sz B a w)(h:Fit sft' z)(j:∀k,z.heap.size<=k->sft' k=0)(b:∀i,i<ρ.length->sft' (ox ρ i).1=0/\z.heap[(ox ρ i).1]?=w.heap[(ox ρ i).1]?)(l:qe sz (qC ρ K) d)(n:∀p∈K,p.2.ok ρ.length):fx sft' [] ρ.length z ρ m sz K d z :=
 ⟨l,λe o=>by
  let⟨g,q,r⟩:=M.ce e o
  exact⟨g,q,(Zf (w:=w) (b _ g).2).trans r⟩,n,λi c=>(F3.soft (M.bl i c) (b i c).1).of (b i c).2,M.ij,λi t s=>absurd s Za,af _,λ_ _ _=>rfl,h,j⟩
def yo(w:Wd)(b:List Nat):List Nat:=(aM w.heap.size).filter λk=>!b.any (aI k)
theorem Px{w:Wd}{k:Nat}(b:k<w.heap.size)(h:k∉yo w p):k∈p:=by
 cases e:p.any (aI k) with
 | false=>exact absurd (dD.2 ⟨eX.2 b,by rw[e];rfl⟩) h
 | true =>
  let⟨x,c,d⟩:=jI.1 e;rw[Zl d];exact c
theorem Df{w:Wd}{k:Nat}(h:k∈p):k∉yo w p:=λb=>by
 have:=(dD.1 b).2;rw[jI.2 ⟨k,h,by simp⟩]at this;cases this
theorem Lp{i j l:Type}{g:i->Option j}{n:i->l}{d:j->l}(h:∀x s,g x=J s->n x=d s):∀(b:List i) (c:List j),b.map g=c.map J->b.map n=c.map d
 | [],[],_=>rfl
 | [],_::_,e=>by cases e
 | _::_,[],e=>by cases e
 | a::b,s::c,e=>by
  let⟨o,p⟩:=List.cons.inj e;rw[cZ,cZ,h a s o,Lp h b c p]
theorem Dl{id j:Nat}{R:mR}{svs:List Sv}{r:Sv}(S:List Nat)(c':pW){d:(Nat->Option Sv)->List (Option Sv)}{C':Prop}(y:Wd->(Nat->Nat)×(Gr->Wd->Prop)->Prop)(M:fx A [] ro w ρ P sz B a w)(hN:b=ρ.length)(h:∀g,xA w (yo w S) ro b H P B sz (ug g 0 [(j,J r)]) (uF H.toList) 0 [] c' True=J (d g,[],C'))(hK:∀g,rL [(j,J r)] 0 (d g)=rL [(j,J r)] 0 (d λ_=>Q))(hE:uW H sz 0 (rL [(j,J r)] 0 (d λ_=>Q)) B=J K)(hB:AD H [j]=true)(hC:C')(T:H[j]?=J q)(hg:q.guard=Q)(p':q.op=.call { callee:=.value (.func c),args:=L,argTypes:=N })(hf:V.funcs[c]?=J R)(q':(R.name== "runtime.NumGoroutine")=false)(hb:R.body=J t)(ha:∀g,L.toList.map (vl H.toList (d g) B sz q)=svs.map J)(hr:r.ok ρ.length)(r':∀f' h',(∀z n,y z n->iv V C true n.1 n.2 (G (f'.finish (r.den ρ)) h') z)->iv V C true A Stop (G (ay V c (svs.map (·.den ρ)).toArray .normal) (f'::h')) w)(hM:∀z n,y z n->(∀i,i<ρ.length->z.heap[(ox ρ i).1]?=w.heap[(ox ρ i).1]?)/\∀b'∈S,z.heap[b']?=w.heap[b']?)(hx:∀z n D,y z n->qe sz (qC ρ K) D->(∀p∈K,p.2.ok ρ.length)->iv V C true n.1 n.2 (G ((aB f).at D k) F) z):iv V C true A Stop (G ((aB f).at a (.code (.region id H true)::k)) F) w:=by
 have MW:=M.pI (W':=yo w S) Zc;refine BZ [(j,J r)] c' false (λo g t' z u=>t'=ρ/\((o=0/\z=w/\u=(A,Stop))\/(o=1/\y z u))) MW hN h hK hE (by simpa using hB) hC (λo g k' z u _ l=>?_) ⟨Z,.inl ⟨Z,Z,Z⟩⟩ (λo j' g' E g o' D z k' u' u l' l h1 h2 rd X=>?_) λg k' a3 w3 u l m' n'=>?_
 .obtain⟨e,l⟩:=l;obtain rfl:=Zk e;rcases l with⟨_,rfl,_⟩|⟨_,v⟩
  .rw[cH];exact⟨MW.ce,λ_ _ _=>rfl⟩
  .obtain⟨u1,u2⟩:=hM _ _ v;refine⟨λe he=>?_,λk hk X=>u2 k (Px hk X)⟩;obtain⟨c1,c2,c3⟩:=M.ce e he;rw[cH];exact⟨c1,c2,(Zf (w:=w) (u1 _ c1)).trans c3⟩
 .obtain⟨e,l⟩:=l;obtain rfl:=Zk e
  cases o with
  | succ o=>simp at E
  | zero =>
   obtain⟨rfl,rfl⟩:=ax (Ze E);rcases l with⟨_,rfl,rfl⟩|⟨h0,_⟩
   case inr=>cases h0
   rw[T]at l';obtain rfl:=Ze l';refine zb T (B7 hg) (by show aX≠.early;decide) p' hf q' hb ?_
   rw[show L.map D.eval=(svs.map (·.den ρ)).toArray from Array.ext' (by
    rw[gM]
    exact Lp (λx s E=>by have:=rd x s E;rwa [cH]at this) _ _ (ha g))]
   refine r' _ _ λw2 e2 v=>?_;rw[zC T];have:=X e2 [] w2 (J r) ⟨by simp,.inr ⟨Z,v⟩⟩ (.inr Z) (λsv h=>by obtain rfl:=Ze h;simpa using hr);simpa[El] using this
 .obtain⟨e,l⟩:=l;obtain rfl:=Zk e;rcases l with⟨h0,_⟩|⟨_,v⟩
  .cases h0
  rw[cH]at m' n';exact hx w3 u a3 v m' n'
end Go.Proofs.YtcgabodkegcpgaaGreatDoor
namespace Go.Proofs.YtcgabodkegcpgaaGreatDoor
open Go.Conc Go.RowKit
variable{a b c d:Nat}{e f g:Wd}{h i:Array Vu}{j k l m n:Vu}{o:Fm'}{p:List Nat}{q r:aN}{s:List Int}{t u:jx}{v w:aU}{x y:Ti}{z:mR}{A:Option Nat}{B C:Int}{D:Bool}{E F:aa}{H:List Vu}{I:Mem}{K:Array Bool}{L:Array aU}{N:Array Ti}{P:db}{R:List nY}{S:List eC}{T:List qc}{W:Vu->Wd->Prop}
variable{C:Ctx}{n:Nat}{s:j6}{pv:List Nat}{H:y6}{free:Vu}{go:Bool}{L:Nat}{N W:m7}{a:db}{f:bF}{k:List bm}{F:List Fm'}{I:Array aN}
theorem gd1{id:Nat}(R T:Nat)(m':pW){m:(Nat->Option Sv)->List (Option Sv)}{Q:Wd->Prop}{z cells:List Vu}(S:pz L N a)(h:∀u A,xA u [] 0 0 I [] N L (ug A 0 [(R,J (.c (.p 0 0))),(T,G')]) (uF I.toList) 0 [] m' True=J (m A,[],Q u))(hK:∀A,rL [(R,J (.c (.p 0 0))),(T,G')] 0 (m A)=rL [(R,J (.c (.p 0 0))),(T,G')] 0 (m λ_=>G'))(hE:uW I L 0 (rL [(R,J (.c (.p 0 0))),(T,G')] 0 (m λ_=>G')) N=J W)(hB:AD I [R,T]=true)(u':I[R]?=J q)(v':q.guard=G')(x':q.op=.alloc b)(n':sX b tj=J (true,z))(y':I[T]?=J r)(z':r.guard=G')(A':r.op=.store b v w)(o':r.dst=G')(B':∀A,vl I.toList (m A) N L r v=J (.c (.p 0 0)))(C':∀A,vl I.toList (m A) N L r w=J (.g (cells.map .v)))(D':cells.length=z.length)(E:cells.all (·.oneCell')=true)(hC:∀l K un u,pk C l K pv H free un go u->Q u)(hn:∀B c t y,B∉pv->B≠C.o.bo->(∀j D,cells[j]?=J D->c[0+j]?=J D)->pz L (wX B W) y->i9 C n s (B::pv) (H.set B (.cells c t (0,0))) free go (G ((aB f).at y k) F))(hp:(W.all λp=>plain p.2&&tQ 1 p.2)=true:=by rfl) :
  i9 C n s pv H free go (G ((aB f).at a (.code (.region id I true)::k)) F) :=
 X3 (R:=λp' H' q' g'=>∃B c t y,B∉pv/\B≠C.o.bo/\(∀j D,cells[j]?=J D->c[0+j]?=J D)/\pz L (wX B W) y/\p'=B::pv/\H'=H.set B (.cells c t (0,0))/\q'=free/\g'=G ((aB f).at y k) F)
  (λl K un u Stop St h'=>by
   have M:=St.px S;have n9:(u.alloc (.cells z.toArray b (0,0))).heap[u.heap.size]?=J (.cells z.toArray b (0,0)):=cE _ _;generalize k':u.alloc (.cells z.toArray b (0,0))=X at n9;have o9:∀k,k<u.heap.size->X.heap[k]?=u.heap[k]?:=λk hk=>by rw[←k'];exact aK _ _ k hk
   have z9:fb l u.heap.size=0:=M.new _ (af _);have s9:X.heap.size=u.heap.size+1:=by rw[←k'];simp
   have f9:Fit (fb l) X:=by rw[←k'];exact(oh.alloc M.fit _).fit
   have P1:∀ {x:Wd} {y:db},X.heap.size<=x.heap.size->(∀k,k<u.heap.size->x.heap[k]?=u.heap[k]?)->F3 (fb l) x u.heap.size->Fit (fb l) x->y.tmps.size=L->y.defers=[]->fx (fb l) [] 0 u ([]++[(u.heap.size,0)]) [] L [] y x:=λ{x y} e1 e2 e3 e4 E h2=>by
    refine⟨⟨E,h2,λp hp=>(by cases hp)⟩,λe he=>(by cases he),λp hp=>(by cases hp),λi P=>?_,λi j P hj E'=>?_,λi _ P=>.inr ?_,by omega,λk hk _=>e2 k hk,e4,M.new⟩
    .obtain rfl:i=0:=by simpa using P
     exact e3
    .exact absurd ((by simpa using P:i=0).trans (by simpa using hj:j=0).symm) E'
    .obtain rfl:i=0:=by simpa using P
     exact af _
   refine vz [(R,J (.c (.p 0 0))),(T,G')] m' false (λs A l' x=>(s=0/\l'=[]/\x=u)\/(s=1/\l'=[]++[(u.heap.size,0)]/\x=X)\/(s=2/\l'=[]++[(u.heap.size,0)]/\X.heap.size<=x.heap.size/\(∀k,k<u.heap.size->x.heap[k]?=u.heap[k]?)/\F3 (fb l) x u.heap.size/\Fit (fb l) x/\x.rangeAt u.heap.size 0 cells)) M Z (h u) hK hE (by simpa using hB) (hC l K un u St) (λs A r' x y _ hP E h2=>?_) (.inl ⟨Z,Z,Z⟩) (λs j g hs A o y x r' rest ho hP Ma rd hn=>?_) λA r' F' G' hP s' wf10=>?_
   .rcases hP with⟨_,e,rfl⟩|⟨_,e,rfl⟩|⟨_,e,e1,e2,e3,e4,_⟩
    .rw[e];exact M.bare E h2
    .rw[e];exact P1 (af _) o9 ⟨⟨_,_,n9⟩,z9⟩ f9 E h2
    .rw[e];exact P1 e1 e2 e3 e4 E h2
   .match s,hs with
    | 0,hs =>
     obtain⟨rfl,rfl⟩:=ax (Ze hs);obtain⟨_,e,rfl⟩:=hP.resolve_right Zc;cases Ze (u'.symm.trans ho);have ra:=λd=>Ej (a:=y) (o:=q) x' (W9 n') (λe=>by cases e) (x.at d) #[];refine Dy (ob:=.cells z.toArray b (0,0)) (v:=Po (J (O x.heap.size 0 G'))) ho v' (by show aX≠.early;decide) (λd=>?_) (λd=>congrArg Prod.snd (ra d)) nQ ?_
     .have:=congrArg Prod.fst (ra d);rw[jr]at this;exact this
     .rw[k'];have:=hn [(x.heap.size,0)] X (J (.c (.p 0 0))) (.inr (.inl ⟨Z,by rw[e],Z⟩)) (.inr Z) (λsv h=>by cases Ze h;show 0<_;simp);rw[e]at this;exact this
    | 1,hs =>
     obtain⟨rfl,rfl⟩:=ax (Ze hs);obtain⟨_,e,rfl⟩:=(hP.resolve_left Zc).resolve_right Zc;cases Ze (y'.symm.trans ho);rw[e]at rd hn;refine wN (b:=u.heap.size) (p:=0) (cells:=cells) Ma.lv ho z' A' o' n9 z9 f9 ((rd v _ (B' A)).trans Z) (rd w _ (C' A)) (by simp[Sv.den,gv,ou.den,Function.comp_def]) (by rw[D'];exact(W9 n').1) (λD hv=>aV.1 E D hv) (λc' hq=>?_) λw2 s1 s2 s3 s4 s5 s6=>?_
     .simp only[aD,n9];simp;omega
     .have:=hn [] w2 G' (.inr (.inr ⟨Z,by simp,by omega,λk hk=>(s2 k Za).trans (o9 k hk),⟨s3,z9⟩,s6,λc' D hv=>s4 c' D hv⟩)) (.inl Z) (λsv h=>by cases h);rw[o']at this;exact this
    | s+2,hs=>simp at hs
   .let⟨_,e,e1,e2,e3,e4,e5⟩:=(hP.resolve_left Zc).resolve_left Zc;let⟨⟨c,t,hb⟩,_⟩:=e3;have O':∀i∈pv,i≠u.heap.size:=λi P e=>by have:=(Zj (St.blk P)).1;omega
    let⟨S1,M1,s1,n1⟩:=St.more e4 Za e2 (bs:=[u.heap.size]) (Hn:=H.set u.heap.size (.cells c t (0,0))) (λb' R'=>by cases Zi R';exact⟨af _,by rw[hb,y6.nv]⟩) λi P=>y6.lj (O' i P);refine h' _ _ free _ G' ⟨u.heap.size,c,t,F',(n1 _ Zc).1,(n1 _ Zc).2,λj D hj=>?_,?_,Z,Z,Z,Z⟩ S1 M1 s1
    .simpa[aD,hb] using e5 j D hj
    .let⟨q1,q2⟩:=Ir (b:=u.heap.size) hp;rw[e]at s'
     exact⟨by rw[q1];exact s',q2⟩)
  λp' H' q' g' ⟨B,c,t,y,E,h2,h3,h4,h5,h6,h7,h8⟩=>by subst h5 h6 h7 h8;exact hn B c t y E h2 h3 h4
attribute [local go_sem ↓] Go.wp_at_zero Go.wp_at_succ
def xh(b:Int)(c d:List Int)(e:Int):M (Int×Int):=if e=0 then M.pure (b,0) else(xU b c d e).bind λg=>M.pure (0,g)
def xg(b:Int)(d g:List Int)(e:Int):M (Int×Int):=if e=0 then(E3 8 b 0 0).bind λc=>xh b d g c.2 else xh b d g e
def Al(b:Int)(c d:List Int)(e:Int):M (Int×Int):=if e=0 then(xq b d 0).bind λq=>xg b c (d.take q.1) q.2 else xg b c [] e
def Cf(b:aa)(p:Nat)(c:List Int):M (Int×Int):=(uy b b.nS 0 c).bind λz=>if z.1.2=0 then(xn z.1.1 (vy b p) 0 z.2).bind λy=>Al z.1.1 ((vy b p).take y.1.1) (uV b p) y.1.2 else M.pure (0,z.1.2)
noncomputable def OE:Nat->List bm
 | 0=>match Tryz.f112.body with
  | some (.seq _ (.seq _ (.seq _ (.seq _ (.seq _ (.seq _ (.seq _ (.seq _ c))))))))=>[.code c]
  | _=>[]
 | _=>match Tryz.f112.body with
  | some (.seq _ (.seq _ (.seq _ (.seq _ (.seq _ (.seq _ (.seq _ c)))))))=>[.code c]
  | _=>[]
abbrev I2(C:Ctx)(b e:Int)(c d:Sl):m7:=[(0,sv (pO C.o)),(6,si b),(7,si e),(9,sv c.val),(10,sv d.val)]
theorem Nf(b e:Int)(c d:Sl)(m:c.ok pv H)(o:d.ok pv H)(i:Fm')(F:List Fm')(k:Int×Int->Bool->j6)(j:∀x e p g,i9 C n (k (x,e) g) [] H p g (G (i.finish (.tuple #[Y U x,Y U e])) F)){a:db}(S:pz 64 (I2 C b e c d) a) :
  i9 C n ((xh b c.xs d.xs e).then go k) pv H free go (G ((aB 112).at a (OE 0)) (i::F)):=by
 unfold xh;refine oE 7 S (λ_=>rfl) λa S=>?_
 by_cases h:e=0
 .rw[nT h,M.oA];refine gu S Z (by simp[h]) ?_;refine oE 20 S (λ_=>rfl) λa S=>?_;refine gz S gY Z Z Z ?_;exact U5 (j b 0 free go)
 .rw[nR h,M.fc];refine gt S Z (by simp[h]) ?_;refine oE 20 S (λ_=>rfl) λa S=>?_;refine gf S Z Z Z ji Z Z Z ?_;refine c0u b e c d m o λl g=>?_;rw[M.oA];refine gk S Z Z (si l) Z Z Z Z λa S=>?_;refine oE 20 S (λ_=>rfl) λa S=>?_;refine gz S gY Z Z Z ?_;exact U5 (j 0 l free g)
theorem Na(b e:Int)(c d:Sl)(j:c.ok pv H)(l:d.ok pv H)(g:Fm')(F:List Fm')(k:Int×Int->Bool->j6)(m:∀x e o i,i9 C n (k (x,e) i) [] H o i (G (g.finish (.tuple #[Y U x,Y U e])) F)){a:db}(S:pz 64 (I2 C b e c d) a) :
  i9 C n ((xg b c.xs d.xs e).then go k) pv H free go (G ((aB 112).at a (OE 1)) (g::F)):=by
 unfold xg;refine oE 7 S (λ_=>rfl) λa S=>?_
 by_cases h:e=0
 .rw[nT h,M.fc];refine gt S Z (by simp[h]) ?_;refine oE 20 S (λ_=>rfl) λa S=>?_;refine gf S Z Z Z cT Z Z Z ?_;refine xu 8 b 0 0 λx e i p=>?_;refine gk S Z Z (t2 x e) Z Z Z Z λa S=>?_;refine oE 5 S (λ_=>rfl) λa S=>?_;exact Nf b e c d j l g F k m (S.pC [0,6,7,9,10] Z)
 .rw[nR h];refine gu S Z (by simp[h]) ?_;refine oE 1 S (λ_=>rfl) λa S=>?_;exact Nf b e c d j l g F k m (S.pC [0,6,7,9,10] Z)
theorem Sl.rC{s:Sl}{pv:List Nat}{H d:y6}(h:s.ok pv H)(g:∀i∈pv,i∈p)(j:∀i∈pv,d i=H i):s.ok p d :=
 ⟨h.1,h.2.imp id λ⟨b,c,t,l,e,m,o⟩=>⟨b,c,t,l,g b e,(j b e).trans m,o⟩⟩
theorem Fr.qv{b:List Int}{c:y6}(d:∀i∈pv,i∈p)(e:∀i∈pv,c i=H i)(h:Fr A pv H free b):Fr A p c free b:=by
 let⟨g,j,l,m,o⟩:=h;exact⟨g,j,l,m,Sl.rC o d e⟩
theorem Row.qv{f:Nat->Vu}{e:y6}(h:Row pv H b c d f)(j:∀i∈pv,i∈p)(l:∀i∈pv,e i=H i):Row p e b c d f:=by
 let⟨g,m,o,q⟩:=h;exact⟨j b g,m,(l b g).trans o,q⟩
theorem Cm{X:Obj}(c:b∉pv):∀i∈pv,(H.set b X) i=H i:=λi d=>y6.lj λe=>c (e▸d)
theorem TF(d:aa)(gF u gD p:Nat)(hK:d.nS<=32)(hp:p<d.nS)(hC:C.slot=p)(j':∀b,A=J b->b∈pv)(k':J u≠A)(hR:Row pv H u 82 (d.nS*20) (A6 d)){xs:List Int}(hF:Fr A pv H free xs){F:List Fm'}{k:Int×Int->Bool->j6}(hn:∀x e D d' R,i9 C n (k (x,e) R) [] D d' R (G (o.finish (.tuple #[Y U x,Y U e])) F)) :
  i9 C n ((Cf d p xs).then go k) pv H free go (G (ay V 112 #[pO C.o,rW d gF u gD] .normal) (o::F)):=by
 unfold Cf;rw[M.fc];refine gn [sv (pO C.o),CG d gF u gD] gY Z Z Z Z λa S=>?_;refine wF 11 [] S (λ_=>rfl) (λ_ _ _ _ _=>trivial) λm c t a hb L' hc S=>?_;refine gf S Z Z Z jl Z Z Z ?_;have f':∀i∈pv,i∈m::pv:=λi y=>ah _ y;have g':=hR.qv f' (Cm (X:=.cells c t (0,0)) hb);have T:∀b,A=J b->b∈m::pv:=λb e=>f' b (j' b e);have u':J m≠A:=λe=>hb (j' m e.symm);refine Yu d gF u gD hK T k' g' (hF.qv f' (Cm hb)) λE e M' D d' R v' l'=>?_;refine gk S Z Z (t2 E e) Z Z Z Z λa S=>?_;refine oE 12 S (λ_=>rfl) λa S=>?_
 by_cases r:e=0
 case neg =>
  rw[nR r,M.oA];refine gt S Z (by simp[r]) ?_;refine oE 20 S (λ_=>rfl) λa S=>?_;refine gz S gY Z Z Z ?_;exact U5 (hn 0 e D d' R)
 rw[nT r,M.fc];refine gu S Z (by simp[r]) ?_;refine oE 2 S (λ_=>rfl) λa S=>?_;have w':Row (m::pv) D u 82 (d.nS*20) (A6 d):=g'.same (l' u g'.1 k');have x':D m=.cells c t (0,0):=(l' m (ao ..) u').trans (y6.nv);refine gd1 8 9 [[Sc (J (O u 0 Q)) d.nS d.nS],[Y U p],(P4 d p).toList] (cells:=(P4 d p).toList) S (λ_ _=>rfl) (λ_=>rfl) Z Zd Z Z Z Z Z Z Z Z (λ_=>rfl) (λ_=>rfl) Z Z (λl K un w z=>?_) λq c2 t2 a n1 n2 m' S=>?_
 .have h0:(0:Int)<=(p:Int)/\(p:Int)<(d.nS:Nat):=by omega
  have c4:=z.ck (j:=4) (x:=Y U p) (by simp[S8,hC]);exact(⟨⟨⟨⟨nQ,z.bk (ao ..) x' (hc 1 _ Z)⟩,c4⟩,h0⟩,Gp z w' hp (aE _)⟩:(((_/\_)/\_)/\_)/\_)
 have h':∀i∈m::pv,i∈q::m::pv:=λi y=>ah _ y;have y':J q≠A:=λe=>n1 (T q e.symm);have z':=Fr.qv h' (Cm (X:=.cells c2 t2 (0,0)) n1) v';refine gm 6 [(P4 d p).toList] S (λ_=>rfl) (λl K un w z=>⟨nQ,z.rk (ao ..) (y6.nv) m'⟩) λa S=>?_;refine gf S Z Z Z lH Z Z Z ?_;refine Am Zd (by have:=X4 (λj=>d.S p (3+j*2)) 4;unfold vy;omega) (λv _=>JM d p v) λB n' H3 A' B' C' o' D' p'=>?_;rw[←A'];refine gk S Z Z (sv B.val) Z Z Z Z λa S=>?_;have i':∀i∈q::m::pv,i∈n'++(q::m::pv):=λi y=>cN _ y;have E':=Fr.qv i' p' z';have q':B.blk≠A\/B.blk=none:=by
  rcases C' with h|⟨b,h,F'⟩
  .exact .inr h
  .exact .inl λe=>(D' b F').1 (h' b (T b (e.symm.trans h)))
 refine gf S Z Z Z jk Z Z Z ?_;refine VQ (λb e=>i' b (h' b (T b e))) E B o' q' B' E' λP e O' H4 P' Q' R' r'=>?_;refine gk S Z Z (.t [.c (.v (B.take P).val),.c (.v (Y U e))]) Z Z Z Z λa S=>?_;have s':=Sl.th o' q' r';have m2:q∈n'++(q::m::pv):=i' q (ao ..);have G':H4 q=.cells c2 t2 (0,0):=(r' q m2 y').trans ((p' q (ao ..)).trans (y6.nv));refine oE 16 S (λ_=>rfl) λa S=>?_;unfold Al
 by_cases r:e=0
 case neg =>
  rw[nR r];refine gu S Z (by simp[r]) ?_;refine oE 1 S (λ_=>rfl) λa S=>?_;exact Na E e (B.take P) ⟨Q,0,[]⟩ (Sl.rH s' P) ⟨by simp,.inl Z⟩ o F k (λx e f g=>hn x e H4 f g) (S.pC [0,6,7,9,10] Z)
 rw[nT r,M.fc];refine gt S Z (by simp[r]) ?_;refine gm 6 [(P4 d p).toList] S (λ_=>rfl) (λl K un w z=>⟨nQ,z.rk m2 G' m'⟩) λa S=>?_;refine gf S Z Z Z lG Z Z Z ?_;refine Am Zd (by have:=X4 (λj=>d.S p (11+j*2)) 4;unfold uV;omega) (λv _=>JU d p v) λX S' H5 I' J' T' t' U' K'=>?_;rw[←I'];refine gk S Z Z (sv X.val) Z Z Z Z λa S=>?_;refine gf S Z Z Z jj Z Z Z ?_;refine ZP E X t' J' λiq e V'=>?_;refine gk S Z Z (.t [.c (.v (X.take iq).val),.c (.v (Y U e))]) Z Z Z Z λa S=>?_;refine oE 6 S (λ_=>rfl) λa S=>?_;exact Na E e (B.take P) (X.take iq) (Sl.rH (Sl.rC s' (λi y=>cN _ y) K') P) (Sl.rH t' iq) o F k (λx e f g=>hn x e H5 f g) (S.pC [0,6,7,9,10] Z)
noncomputable def d1m:jx :=
 match Tryz.f113.body with
 | some (.seq _ (.seq (.seq _ (.block _ (.loop (.seq _ (.seq _ (.seq (.block _ (.seq r _)) _)))))) _))=>r
 | _=>.skip
noncomputable def C8:Array aN :=
 match Tryz.f113.body with
 | some (.seq _ (.seq (.seq _ (.block _ (.loop (.seq _ (.seq _ (.seq (.block _ (.seq _ (.seq _ (.cond _ (.seq (.region _ I _) _) _)))) _)))))) _))=>I
 | _=>#[]
def vf(o:nY)(i:Nat)(sv b c d x e:Vu):Nat->Vu
 | 0=>pO o|1=>Y U i|2=>sv|3=>b|4=>sv|5=>c|6=>d|7=>x|8=>e|9=>x|10=>e|_=>Ud
theorem zy{I:Array aN}{a:db}{k:List bm}{F:List Fm'}{c:Nat->Vu}{base:Array Vu}{listed:Array Bool}(h:pE I c base listed a)(i:ux I=true)(e:I[b]?=J q)(m:q.guard=Q)(r:o.kind≠.early)(t:qG V (λ_=>false) [] false q.op=true)(u:c b=j)(v:∀l K x w d,pk C l K pv H free x go w->(Ex a.eval q).run V (w.at d)=.ok (.value j) (w.at d))(y:∀g,pE I c base (listed.setIfInBounds b true) g->i9 C n s pv H free go (G (o.at g (.inRegion I p::k)) F)):i9 C n s pv H free go (G (o.at a (.inRegion I (b::p)::k)) F) :=
 Ly e m r t v (y _ (h.put i e u))
theorem Up{I:Array aN}{a:db}{k:List bm}{F:List Fm'}{c:Nat->Vu}{base:Array Vu}{listed:Array Bool}{b0:Nat}{f:Nat×Nat}{ms:List Vu}{d:TypeDesc}(l:pE I c base listed a)(m:ux I=true)(e:I[b]?=J q)(r:q.guard=Q)(t:o.kind≠.early)(u:q.op=.load x v)(w:a.eval v=Po (J (O b0 0 Q)))(z:b0∈pv)(A:H b0=.cells h y f)(B:∀(j:Nat) (g:Vu),ms[j]?=J g->h[j]?=J g)(D:V.underlying x=J d)(E:d.isRow=true)(K:(V.info? x).map (·.size)=J ms.length)(P:c b=.agg ms.toArray)(R:∀i,pE I c base (listed.setIfInBounds b true) i->i9 C n s pv H free go (G (o.at i (.inRegion I p::k)) F)):i9 C n s pv H free go (G (o.at a (.inRegion I (b::p)::k)) F) :=
 SK e r t u w z A B D E K (R _ (l.put m e P))
theorem vA:ux C8=true:=by kernel_rfl
theorem GC{listed:Array Bool}(c:b∈aW .any C8 listed)(h:listed.getD 6 false=false):b<=6:=by
 have d:b<11:=xE c;refine Nat.le_of_not_lt λe=>?_;obtain rfl|rfl|rfl|rfl:b=7\/b=8\/b=9\/b=10:=by omega
 all_goals exact Ch c Z (j:=6) h Zd
theorem Fh{listed:Array Bool}(e:∀c,b<=c->listed.getD c false=false)(d:listed.getD c false=true):c<b:=Nat.lt_of_not_le λh=>by rw[e c h]at d;cases d
theorem Eg{listed:Array Bool}{a:db}{D:List bm}{F:List Fm'}{sv x e:Vu}(q:d∈aW .any C8 listed)(g:pE C8 (vf C.o c sv j l m x e) h listed a)(d':h.size=40)(b0:h[0]?=J (pO C.o))(M:h[6]?=J (Y U c))(X:h[7]?=J (Po (J (O b 0 Q))))(hb:d=2\/d=4->b∈pv/\∃(B:aa) (E:Array Vu) (t:Ti) (f:Nat×Nat),H b=.cells E t f/\(∀(P:Nat) (v:Vu),(cut (A6 B) (c*20) 20)[P]?=J v->E[P]?=J v)/\sv=.agg (P4 B c))(h3:d≠3)(h5:d≠5)(h6:d≠6)(R:listed.getD 6 false=true->m=.tuple #[x,e])(i:∀S,pE C8 (vf C.o c sv j l m x e) h (listed.setIfInBounds d true) S->i9 C n s pv H free go (G ((aB 113).at S (.inRegion C8 p::D)) F)):i9 C n s pv H free go (G ((aB 113).at a (.inRegion C8 (d::p)::D)) F):=by
 have e':d<11:=xE q;have T:d=2\/d=4->∀o:aN,C8[d]?=J o->o.op=.load 82 (.tmp 7)->o.guard=Q->vf C.o c sv j l m x e d=sv->i9 C n s pv H free go (G ((aB 113).at a (.inRegion C8 (d::p)::D)) F):=λb' o ho c' hg hV=>by
  let⟨g1,B,E,t,f,g2,g3,g4⟩:=hb b';exact Up g vA ho hg Zb c' (g.base Zd X) g1 g2 g3 jS Z (by rw[xS];kernel_rfl) ((hV.trans g4).trans (congrArg Value.agg (DW B c).symm)) i
 obtain rfl|rfl|rfl|rfl|rfl|rfl|rfl|rfl:d=0\/d=1\/d=2\/d=4\/d=7\/d=8\/d=9\/d=10:=by omega
 .exact zy g vA Z Z Zb Z Z (λr K u w y z=>X1 Z (g.base Zd b0)) i
 .exact zy g vA Z Z Zb Z Z (λr K u w y z=>X1 Z (g.base Zd M)) i
 .exact T Zc _ Z Z Z Z
 .exact T Zc _ Z Z Z Z
 .have A:listed.getD 6 false=true:=k9 q Z Zd;exact zy g vA Z Z Zb Z Z (λr K u w y z=>FA Z ((g.tmp (j:=6) Z Z A Za Z).trans (R A)) Z) i
 .have A:listed.getD 6 false=true:=k9 q Z Zd;exact zy g vA Z Z Zb Z Z (λr K u w y z=>FA Z ((g.tmp (j:=6) Z Z A Za Z).trans (R A)) Z) i
 .exact zy g vA Z Z Zb Z Z (λr K u w y z=>zW Z (g.tmp (j:=7) Z Z (k9 q Z Zd) Za Z)) i
 .exact zy g vA Z Z Zb Z Z (λr K u w y z=>zW Z (g.tmp (j:=8) Z Z (k9 q Z Zd) Za Z)) i
theorem Rm(r:h.size=40)(b0:h[0]?=J (pO C.o))(y:h[6]?=J (Y U c))(z:h[7]?=J (Po (J (O b 0 Q))))(sv A B:Vu)(x e:Int)(t:Fm')(F:List Fm')(D:List bm)(E:i9 C n s pv H free go (G (t.finish (.tuple #[Y U x,Y U e])) F)) :
  ∀K listed a i,Ord C8 K listed i->(pE C8 (vf C.o c sv A B (.tuple #[Y U x,Y U e]) (Y U x) (Y U e)) h listed a/\∀j,j<=6->listed.getD j false=true)->i9 C n s pv H free go (G ((aB 113).at a (.inRegion C8 i::.code .ret::D)) (t::F)):=by
 refine BV (λf listed a q i u l M P=>?_) λlisted a R l=>?_
 .obtain⟨d,m⟩:=l;have no:∀j,j<=6->q≠j:=λj o e=>vB u (e▸m j o);exact Eg u d r b0 y z (λv=>by have:=no 2;have:=no 4;omega) (no 3 Za) (no 5 Za) (no 6 Za) (λ_=>rfl) λT v=>P T ⟨v,λj o=>Z6 (m j o)⟩
 .obtain⟨d,m⟩:=l;have w:=V0 Zd d.len R;have S:pz 40 [(4,si x),(5,si e)] a:=⟨⟨d.size.trans r,d.defs,λp g=>?_⟩,λp g=>by simp at g;rcases g with rfl|rfl<;>trivial⟩
  .refine oE 1 S (λ_=>rfl) λa S=>?_;exact gz S jo Z Z Z E
  .simp only[qC,ae,ai,or_false]at g;rcases g with rfl|rfl
   .exact d.done 9 _ 4 Z Z (w 9 (by show 9<11;omega)) Za
   .exact d.done 10 _ 5 Z Z (w 10 (by show 10<11;omega)) Za
theorem QA(D:h.size=40)(b0:h[0]?=J (pO C.o))(K:h[6]?=J (Y U c))(P:h[7]?=J (Po (J (O b 0 Q))))(i l:Sl)(M:i.ok pv H)(X:l.ok pv H)(w:Fm')(F:List Fm')(R:List bm)(k:Int×Int->Bool->j6)(hs:s=(J7 c i.xs l.xs).then go k)(hn:∀x e p H',i9 C n (k (x,e) p) [] H' free p (G (w.finish (.tuple #[Y U x,Y U e])) F)) :
  ∀c' listed a y,Ord C8 c' listed y->(pE C8 (vf C.o c (.agg (P4 E c)) i.val l.val Ud Ud Ud) h listed a/\(∀j,2<=j->j<=5->listed.getD j false=true)/\∀j,6<=j->listed.getD j false=false)->i9 C n s pv H free go (G ((aB 113).at a (.inRegion C8 y::.code .ret::R)) (w::F)):=by
 refine BV (λf0 listed a q y d r hO d'=>?_) λlisted a hr r=>?_
 .let⟨m,z,t⟩:=r;have no:∀j,2<=j->j<=5->q≠j:=λj A B e=>vB d (e▸z j A B)
  by_cases S:q=6
  case neg=>exact Eg d m D b0 K P (λg=>by have:=no 2;have:=no 4;omega) (no 3 Za Za) (no 5 Za Za) S (λg=>by rw[t 6 Za]at g;cases g) λa' g=>d' a' ⟨g,λj A B=>Z6 (z j A B),λj v=>yY (t j v) (by have:=GC d (t 6 Za);omega)⟩
  subst S;have f':a.eval (.tmp 28)=pO C.o:=m.tmp (j:=0) Z Z (k9 d Z Zd) Za Z;have g':a.eval (.tmp 29)=Y U c:=m.tmp (j:=1) Z Z (k9 d Z Zd) Za Z;have h':a.eval (.tmp 31)=i.val:=m.tmp (j:=3) Z Z (k9 d Z Zd) Za Z;have i':a.eval (.tmp 33)=l.val:=m.tmp (j:=5) Z Z (k9 d Z Zd) Za Z;have l0:listed.getD 0 false=true:=k9 d Z Zd;have l1:listed.getD 1 false=true:=k9 d Z Zd;subst hs;refine GP Z (λu=>Z7 Z Z Zb Z jh Z Z (vs:=#[pO C.o,Y U c,i.val,l.val]) (by grind) u)<|KB c i l M X λx e p=>?_;obtain⟨o,T,j'⟩:∃o,C8[6]?=J o/\o.dst=J 34:=⟨_,Z,Z⟩;have e':=(m.val (V':=vf C.o c (.agg (P4 E c)) i.val l.val (.tuple #[Y U x,Y U e]) (Y U x) (Y U e)) (λj v=>by have:=Fh t v;match j,this with|0,_|1,_|2,_|3,_|4,_|5,_=>rfl)).put vA T (v:=.tuple #[Y U x,Y U e]) Z;rw[bK,show(C8[6]?.bind λx=>x.dst)=o.dst from by rw[T];rfl];refine Rm D b0 K P _ _ _ x e w F R (U5 (hn x e p H)) _ _ _ _ hO ⟨e',λj v=>?_⟩;obtain rfl|rfl|g|rfl:j=0\/j=1\/(2<=j/\j<=5)\/j=6:=by omega
  .simp_all
  .simp_all
  .exact Z6 (z j g.1 g.2)
  .exact zk d
 .exact absurd (V0 Zd r.1.len hr 6 (by show 6<11;omega)) (by rw[r.2.2 6 Za];simp)
theorem c6F(D:h.size=40)(b0:h[0]?=J (pO C.o))(K:h[6]?=J (Y U c))(P:h[7]?=J (Po (J (O b 0 Q))))(c':b∈pv){f:Nat×Nat}(hX:H b=.cells i x f)(d':∀(j:Nat) (v:Vu),(cut (A6 E) (c*20) 20)[j]?=J v->i[j]?=J v)(m:Sl)(e':m.ok pv H)(w:Fm')(F:List Fm')(R:List bm)(k:Int×Int->Bool->j6)(hs:s=(J7 c m.xs (uV E c)).then go k)(hn:∀p e S H',i9 C n (k (p,e) S) [] H' free S (G (w.finish (.tuple #[Y U p,Y U e])) F)) :
  ∀f' listed a y,Ord C8 f' listed y->(pE C8 (vf C.o c (.agg (P4 E c)) m.val Ud Ud Ud Ud) h listed a/\(∀j,2<=j->j<=3->listed.getD j false=true)/\∀j,5<=j->listed.getD j false=false)->i9 C n s pv H free go (G ((aB 113).at a (.inRegion C8 y::.code .ret::R)) (w::F)):=by
 refine BV (λf0 listed a q y d r hO g'=>?_) λlisted a hr r=>?_
 .let⟨z,A,l⟩:=r;have h3:q≠3:=λe=>vB d (e▸A 3 Za Za);have h6:q≠6:=λe=>by subst e;exact Ch d Z (j:=5) (l 5 Za) Zd
  have m':=GC d (l 6 Za)
  by_cases T:q=5
  case neg=>exact Eg d z D b0 K P (λ_=>⟨c',E,i,x,f,hX,d',Z⟩) h3 T h6 (λg=>by rw[l 6 Za]at g;cases g) λa' g=>g' a' ⟨g,λj M X=>Z6 (A j M X),λj t=>yY (l j t) Za⟩
  subst T;have h':a.eval (.tmp 32)=.agg (P4 E c):=z.tmp (j:=4) Z Z (k9 d Z Zd) Za Z;have l4:listed.getD 4 false=true:=k9 d Z Zd;refine GP Z (λu=>Z7 Z Z Zb Z lG Z Z (vs:=#[.agg (P4 E c)]) (by simp[h']) u)<|Am Zd (by have:=X4 (λj=>E.S c (11+j*2)) 4;unfold uV;omega) (λv _=>JU E c v) λB n' H5 i' o' p' j' q' k'=>?_;obtain⟨o,ho,r'⟩:∃o,C8[5]?=J o/\o.dst=J 33:=⟨_,Z,Z⟩;have l':=(z.val (V':=vf C.o c (.agg (P4 E c)) m.val B.val Ud Ud Ud) (λj t=>by have:=Fh l t;match j,this with|0,_|1,_|2,_|3,_|4,_=>rfl)).put vA ho (v:=B.val) Z;rw[bK,show(C8[5]?.bind λp=>p.dst)=o.dst from by rw[ho];rfl];refine QA D b0 K P m B (Sl.rC e' (λc d=>cN _ d) k') j' w F R k (by rw[hs,i']) hn _ _ _ _ hO ⟨l',λj M X=>?_,λj t=>yY (l j Za) Za⟩;obtain g|rfl|rfl:(2<=j/\j<=3)\/j=4\/j=5:=by omega
  .exact Z6 (A j g.1 g.2)
  .simp_all
  .exact zk d
 .exact absurd (V0 Zd r.1.len hr 6 (by show 6<11;omega)) (by rw[r.2.2 6 Za];simp)
theorem Qh{i:Nat}{tb:Array Vu}(B:tb.size=40)(b0:tb[0]?=J (pO C.o))(D:tb[6]?=J (Y U i))(E:tb[7]?=J (Po (J (O b 0 Q)))){K0:aa}(t:b∈pv){f:Nat×Nat}(K:H b=.cells h x f)(P:∀(j:Nat) (v:Vu),(cut (A6 K0) (i*20) 20)[j]?=J v->h[j]?=J v)(w:Fm')(F:List Fm'){R:List bm}(k:Int×Int->Bool->j6)(M:s=(J7 i (vy K0 i) (uV K0 i)).then go k)(X:∀l e S H',i9 C n (k (l,e) S) [] H' free S (G (w.finish (.tuple #[Y U l,Y U e])) F)) :
  ∀c' listed a y,Ord C8 c' listed y->(pE C8 (vf C.o i (.agg (P4 K0 i)) Ud Ud Ud Ud Ud) tb listed a/\listed.getD 3 false=false/\∀j,5<=j->listed.getD j false=false)->i9 C n s pv H free go (G ((aB 113).at a (.inRegion C8 y::.code .ret::R)) (w::F)):=by
 refine BV (λf0 listed a q y c m hO d'=>?_) λlisted a hr m=>?_
 .let⟨z,p,g⟩:=m;have n5:q≠5:=λe=>by subst e;exact Ch c Z (j:=3) p Zd
  have n6:q≠6:=λe=>by subst e;exact Ch c Z (j:=3) p Zd
  have j':=GC c (g 6 Za)
  by_cases n3:q=3
  case neg=>exact Eg c z B b0 D E (λ_=>⟨t,K0,h,x,f,K,P,Z⟩) n3 n5 n6 (λr=>by rw[g 6 Za]at r;cases r) λa' r=>d' a' ⟨r,yY p Za,λj d=>yY (g j d) Za⟩
  subst n3;have e':a.eval (.tmp 30)=.agg (P4 K0 i):=z.tmp (j:=2) Z Z (k9 c Z Zd) Za Z;have l2:listed.getD 2 false=true:=k9 c Z Zd;refine GP Z (λu=>Z7 Z Z Zb Z lH Z Z (vs:=#[.agg (P4 K0 i)]) (by simp[e']) u)<|Am Zd (by have:=X4 (λj=>K0.S i (3+j*2)) 4;unfold vy;omega) (λv _=>JM K0 i v) λA k' H5 f' l' m' g' n' h'=>?_;obtain⟨o,T,o'⟩:∃o,C8[3]?=J o/\o.dst=J 31:=⟨_,Z,Z⟩
  have i':=(z.val (V':=vf C.o i (.agg (P4 K0 i)) A.val Ud Ud Ud Ud) (λj d=>by
   have:=Fh g d
   match j,this with
   | 0,_|1,_|2,_|4,_=>rfl
   | 3,_=>rw[p]at d;cases d)).put vA T (v:=A.val) Z
  rw[bK,show(C8[3]?.bind λl=>l.dst)=o.dst from by rw[T];rfl];refine c6F B b0 D E (cN _ t) ((h' b t).trans K) P A g' w F R k (by rw[M,f']) X _ _ _ _ hO ⟨i',λj h1 h2=>?_,λj d=>yY (g j Za) Za⟩;obtain rfl|rfl:j=2\/j=3:=by omega
  .simp_all
  .exact zk c
 .exact absurd (V0 Zd m.1.len hr 6 (by show 6<11;omega)) (by rw[m.2.2 6 Za];simp)
def uP(b:aa)(p:Int):Nat->Nat->M (Int×Int)
 | 0,_=>(sG 11).bind λe=>M.pure (0,e)
 | f+1,i=>if (b.S i 1==p&&b.S i 0==3)=true then J7 i (vy b i) (uV b i) else uP b p f (i+1)
noncomputable def JA:List bm :=
 match Tryz.f113.body with
 | some (.seq _ (.seq (.seq _ (.block i (.loop c))) r))=>[.code c,.inLoop c,.inBlock i,.code r]
 | _=>[]
theorem Tx(b:aa)(gF m gD sb:Nat)(hK:b.nS<=32)(y:y6)(z:Row pv y m 82 (b.nS*20) (A6 b))(q:Fm')(F:List Fm')(k:Int×Int->Bool->j6)(A:∀x e r H',i9 C n (k (x,e) r) [] H' free r (G (q.finish (.tuple #[Y U x,Y U e])) F)) :
  ∀(f i:Nat),i+f=b.nS->∀(H:y6),(∀i∈pv,H i=y i)->∀(go:Bool) a,pz 40 [(0,sv (pO C.o)),(9,sv (Sc (J (O m 0 Q)) b.nS b.nS)),(10,si b.nS),(11,si i)] a ->
  i9 C n ((uP b C.slot f i).then go k) pv H free go (G ((aB 113).at a JA) (q::F)):=by
 intro f
 induction f with
 | zero =>
  intro i hi H u go a S;unfold uP;rw[M.fc];refine oE 5 S (λ_=>rfl) λa S=>?_;refine gu S Z (by simp;omega) ?_;refine oE 9 S (λ_=>rfl) λa S=>?_;refine gf S Z Z Z fH Z Z Z ?_;refine FY 11 λe r=>?_;rw[M.oA];refine gk S Z Z (si e) Z Z Z Z λa S=>?_;refine oE 9 S (λ_=>rfl) λa S=>?_;refine gz S jo Z Z Z ?_;exact U5 (A 0 e r H)
 | succ f ih =>
  intro i hi H u go a S;have d':i<b.nS:=by omega
  unfold uP;refine oE 5 S (λ_=>rfl) λa S=>?_;refine gt S Z (by simp;omega) ?_;have B:(0:Int)<=(i:Int)/\(i:Int)<(b.nS:Nat):=by omega
  have D:∀l K h w,pk C l K pv H free h go w->vO w [] m (0+i*20) (P4 b i).toList:=λl K h w g=>Gp g (z.same (u m z.1)) d' (aE _);have E:∀d X a,d∉pv->pz 40 [(0,sv (pO C.o)),(9,sv (Sc (J (O m 0 Q)) b.nS b.nS)),(10,si b.nS),(11,si (IntKind.i64.wrap ((i:Int)+1)))] a->i9 C n ((uP b C.slot f (i+1)).then go k) (d::pv) (H.set d X) free go (G ((aB 113).at a JA) (q::F)):=λd X a o S=>by
   rw[W5 Za Za,show((i:Int)+1)=((i+1:Nat):Int) from by simp]at S;refine xB o ?_;exact ih (i+1) Za H u go a S
  cases P:b.S i 1==C.slot
  .rw[nR Zc];refine wF 40 [(P4 b i).toList,[Y U C.slot],[Bo false,Bo false]] S (λ_=>rfl) (λl K h w g=>?_) λd c t a o h2 R S=>?_
   .refine⟨⟨?_,by kernel_rfl⟩,by kernel_rfl⟩;exact(⟨⟨⟨⟨nQ,B⟩,D l K h w g⟩,g.ck (j:=4) Z⟩,P⟩:(((_/\_)/\_)/\_)/\_)
   refine gu S Z Z ?_;refine oE 7 S (λ_=>rfl) λa S=>?_;exact E d _ a o (S.pC [0,9,10,11] Z)
  .refine wF 40 [(P4 b i).toList,[Y U C.slot],[Bo true,Bo true]] S (λ_=>rfl) (λl K h w g=>?_) λd c t a o h2 R S=>?_
   .refine⟨⟨?_,by kernel_rfl⟩,by kernel_rfl⟩;exact(⟨⟨⟨⟨nQ,B⟩,D l K h w g⟩,g.ck (j:=4) Z⟩,P⟩:(((_/\_)/\_)/\_)/\_)
   simp only[Bool.true_and];cases T:b.S i 0==3
   .rw[nR Zc];refine gu S Z T ?_;refine oE 7 S (λ_=>rfl) λa S=>?_;exact E d _ a o (S.pC [0,9,10,11] Z)
   rw[nT Z];refine gt S Z T ?_;refine oE 1 S (λ_=>rfl) λa S=>?_;refine S6 Zd λe' hO=>?_;have p:=(S.pC [0,6,7] Z).lv;obtain⟨tb,ds⟩:=a;obtain rfl:ds=[]:=p.defers
   exact Qh (C:=C) (K0:=b) (i:=i) (tb:=tb) p.size (p.has (0,_) (.head _)) (p.has (6,_) (.tail _ (.head _))) (p.has (7,_) (.tail _ (.tail _ (.head _)))) (ao ..) (y6.nv) (λj v hj=>by
    have:=ER (n:=20) (o:=0) (l:=(P4 b i).toList) R Z j v (by rw[←DW];exact hj)
    rwa [aE]at this) q F k Z A C8.size (cx C8.size false) ⟨tb,[]⟩ e' hO ⟨pE.start _ _ _,V9 _ _,λj _=>V9 _ _⟩
theorem c0C(b:aa)(g d h:Nat)(j:b.nS<=32)(l:Row pv H d 82 (b.nS*20) (A6 b)){F:List Fm'}{k:Int×Int->Bool->j6}(m:∀x e i p,i9 C n (k (x,e) i) [] p free i (G (o.finish (.tuple #[Y U x,Y U e])) F)) :
  i9 C n ((uP b C.slot b.nS 0).then go k) pv H free go (G (ay V 113 #[pO C.o,rW b g d h] .normal) (o::F)):=by
 refine gn [sv (pO C.o),CG b g d h] jo Z Z Z Z λa S=>wF 16 [] S (λ_=>rfl) (λ_ _ _ _ _=>trivial) λq c t a r u v S=>xB r<|Tx (C:=C) (n:=n) (free:=free) b g d h q j H l o F k m b.nS 0 Za H (λ_ _=>rfl) go a (S.pC [0,9,10,11] Z)
theorem gfr{L:Nat}{N:m7}{a:db}{f:bF}{k:List bm}{F:List Fm'}{I:Array aN}{i:Option cC}(S:pz L N a)(ho:I[b]?=J q)(hg:q.guard=Q)(z:q.op=.store 139 v w)(hd:q.dst=Q)(hx:ql N v=J (sv (Po (J (O C.o.bo 10 Q)))))(hy:ql N w=J (sv (.slice i c d)))(hn:i9 C n s pv H (.slice i c d) go (G ((aB f).at a (.inRegion I p::k)) F)):i9 C n s pv H free go (G ((aB f).at a (.inRegion I (b::p)::k)) F):=by
 refine X3 (R:=λB r D E=>B=pv/\r=H/\D=.slice i c d/\E=G ((aB f).at a (.inRegion I p::k)) F) (λl K un g Stop o h j=>?_) (λB r D E ⟨u,x,y,h4⟩=>by subst u x y h4;exact hn);have P:=((o.px S).rd hx).1;have R:=((o.px S).rd hy).1;have T:g.cell? (O C.o.bo 10 Q)=J free:=o.xj (d:=g.drawn) Z;have hm:C.o∈l:=by let⟨r,A,_⟩:=o;exact A.mem
 have ez:g.frozen? (O C.o.bo 10 Q)=false:=by
  let⟨r,A,M⟩:=o;let⟨t,hb⟩:=A.blk;simp[bY,hb]
 let⟨r,A,M⟩:=o;let⟨t,A2,X⟩:=A.set (j:=10) (x:=.slice i c d) (free':=.slice i c d) (un':=un) (go':=go) Za Z;refine C5 ho (B7 hg) (by show aX≠.early;decide) (λj K' hK=>?_) j;have ed:(g.at j).cell? (O C.o.bo 10 Q)=J free:=T;have e':(g.at j).frozen? (O C.o.bo 10 Q)=false:=ez;have r1:(Ex a.eval q).run V (g.at j)=.ok .skip ((g.at j).setCell (O C.o.bo 10 Q) (.slice i c d)):=by
  unfold Ex;simp only[z,P,R,Sv.den,ou.den];go_simp
 have r2:∀e∈(Ex a.eval q).events V (g.at j) #[],e=⟨.cell (O C.o.bo 10 Q),true,false⟩:=λe m=>by
  unfold Ex at m;simp only[z,P,R,Sv.den,ou.den]at m;simp only[go_sem]at m;simp[go_sem]at m;rw[jy _ _ _ _ _ _ Z,ed,e']at m;simpa[show(Mode.plain==Mode.atomic)=false from Z] using m
 rw[r1,uponK_skip,hd];exact hK _ _ ⟨yf (by rw[Q7 hm];show 3<=10;omega) (aL _ _ T) λe m=>r2 e (aZ m),h pv H (.slice i c d) _ (g.setCell (O C.o.bo 10 Q) (.slice i c d)) ⟨Z,Z,Z,Z⟩ (.of A2 (Ce M)) ⟨X.size,λk hk h0 u x y=>X.block k hk (λe=>h0 (by cases Zi e;exact ao ..)) u x y⟩ (λb hi=>.inl hi) j⟩
abbrev IX(K:aa)(b c d:Nat):List dQ:=[Sc (J (O b 0 Q)) K.nF K.nF,Sc (J (O c 0 Q)) K.nS K.nS,Sc (J (O d 0 Q)) K.nD K.nD]
def AQ(b:aa)(p:Nat)(c A B:Int):M (Int×Int) :=
 if c=1 then Cf b p (E9 b b.nF) else if c=2 then uP b p b.nS 0
 else if c=3 then(wG 13 (E9 b b.nF).length A 0 B (E9 b b.nF)).bind λz=>M.pure (0,z.1)
 else if c=4 then(J6 16 B 0 A).bind λe=>M.pure (0,e)
 else if c=5 then xV A B else if c=6 then E3 9 A 0 0
 else if c=7 then(wG 2 (E9 b b.nF).length A 0 0 (E9 b b.nF)).bind λz=>M.pure (0,z.1)
 else M.pure (0,2)
theorem b3d(g:aa)(m o r p:Nat)(i':g.nF<=32)(hK:g.nS<=32)(hp:p<g.nS)(hC:C.slot=p)(j':Row pv H m 71 (g.nF*6) (U8 g))(k':Row pv H o 82 (g.nS*20) (A6 g))(fr:Fm')(F:List Fm')(k:Int×Int->Bool->j6)(u:∀x e z D j,i9 C n (k (x,e) j) [] z D j (G (fr.finish (.tuple #[Y U x,Y U e])) F)) :
  i9 C n ((AQ g p C.kd C.A C.B).then go k) pv H free go (G (ay V 107 #[pO C.o,rW g m o r] .normal) (fr::F)):=by
 refine gn [sv (pO C.o),CG g m o r] dx Z Z Z Z λa S=>?_;refine wF 11 [] S (λ_=>rfl) (λ_ _ _ _ _=>trivial) λq c t a hb E hc S=>?_;have c':∀i∈pv,i∈q::pv:=λi P=>ah _ P;have d':=j'.qv c' (Cm (X:=.cells c t (0,0)) hb);have e':=k'.qv c' (Cm (X:=.cells c t (0,0)) hb);refine gf S Z Z Z Tryz.func111 Z Z Z ?_;have u':=EB g g.nF;refine Am Zd (xs:=E9 g g.nF) Za (λv hv=>QY v g m o r i' (d'.is hv) (hv m d'.1).1) λy A R l' v' f' m' n' g'=>?_;refine gk S Z Z (sv y.val) Z Z Z Z λa S=>?_;have h':=e'.qv (λi P=>cN A P) g';have o':q∈A++(q::pv):=cN _ (ao ..);have p':R q=.cells c t (0,0):=(g' q (ao ..)).trans (y6.nv);have T:∀b,y.blk=J b->b∈A++(q::pv):=λb e=>by
  rcases f' with h|⟨b',h,E⟩
  .rw[h]at e;cases e
  .rw[h]at e;obtain rfl:=Ze e;exact fP _ E
 have q':J o≠y.blk:=λe=>by
  rcases f' with h|⟨b',h,E⟩
  .rw[h]at e;cases e
  .rw[h]at e;obtain rfl:=Ze e;exact(n' _ E).1 e'.1
 have hF:Fr y.blk (A++(q::pv)) R y.val (E9 g g.nF):=⟨y,Z,Z,l',m'⟩;refine oE 2 S (λ_=>rfl) λa S=>?_;refine gfr S Z Z Z Z Z Z ?_;refine gm 40 [[Y U C.A],[Y U C.B],[Y U C.kd]] S (λ_=>rfl) (λl K X w B=>(⟨⟨⟨(⟨⟨nQ,B.ck (j:=6) Z⟩,B.ck (j:=7) Z⟩:(_/\_)/\_),by kernel_rfl⟩,by kernel_rfl⟩,B.ck (j:=5) Z⟩:((_/\_)/\_)/\_)) λa S=>?_;have rk:∀l K X w,pk C l K (A++q::pv) R y.val X go w->True/\vO w [] q 0 (IX g m o r):=λl K X w B=>⟨nQ,B.rk o' p' (ER (n:=3) (o:=0) hc Z)⟩
 unfold AQ
 by_cases d:C.kd=1
 .rw[nT d];refine gt S Z (by simp[d]) ?_;refine gm 9 [IX g m o r] S (λ_=>rfl) rk λa S=>?_;refine gf S Z Z Z gY Z Z Z ?_;refine TF g m o r p hK hp hC T q' h' hF λx e z D j=>?_;refine gk S Z Z (t2 x e) Z Z Z Z λa S=>?_;refine oE 9 S (λ_=>rfl) λa S=>?_;refine gz S dx Z Z Z ?_;exact U5 (u x e H _ j)
 rw[nR d];refine gu S Z (by simp[d]) ?_;refine oE 9 S (λ_=>rfl) λa S=>?_
 by_cases d:C.kd=2
 .rw[nT d];refine gt S Z (by simp[d]) ?_;refine gm 9 [IX g m o r] S (λ_=>rfl) rk λa S=>?_;refine gf S Z Z Z jo Z Z Z ?_;rw[←hC];refine c0C g m o r hK h' λx e j z=>?_;refine gk S Z Z (t2 x e) Z Z Z Z λa S=>?_;refine oE 9 S (λ_=>rfl) λa S=>?_;refine gz S dx Z Z Z ?_;exact U5 (u x e H _ j)
 rw[nR d];refine gu S Z (by simp[d]) ?_;refine oE 9 S (λ_=>rfl) λa S=>?_
 by_cases d:C.kd=3
 .rw[nT d,M.fc];refine gt S Z (by simp[d]) ?_;refine oE 9 S (λ_=>rfl) λa S=>?_;refine gf S Z Z Z eQ Z Z Z ?_;refine Hs hF T 13 C.A 0 C.B λe r' z D j s' t'=>?_;refine gk S Z Z (si e) Z Z Z Z λa S=>?_;refine oE 9 S (λ_=>rfl) λa S=>?_;refine gz S dx Z Z Z ?_;exact U5 (u 0 e H _ j)
 rw[nR d];refine gu S Z (by simp[d]) ?_;refine oE 9 S (λ_=>rfl) λa S=>?_
 by_cases d:C.kd=4
 .rw[nT d,M.fc];refine gt S Z (by simp[d]) ?_;refine oE 9 S (λ_=>rfl) λa S=>?_;refine gf S Z Z Z jn Z Z Z ?_;refine Jm 16 C.B 0 C.A λe j=>?_;refine gk S Z Z (si e) Z Z Z Z λa S=>?_;refine oE 9 S (λ_=>rfl) λa S=>?_;refine gz S dx Z Z Z ?_;exact U5 (u 0 e H _ j)
 rw[nR d];refine gu S Z (by simp[d]) ?_;refine oE 9 S (λ_=>rfl) λa S=>?_
 by_cases d:C.kd=5
 .rw[nT d];refine gt S Z (by simp[d]) ?_;refine oE 9 S (λ_=>rfl) λa S=>?_;refine gf S Z Z Z jm Z Z Z ?_;refine Vt C.A C.B λx e j=>?_;refine gk S Z Z (t2 x e) Z Z Z Z λa S=>?_;refine oE 9 S (λ_=>rfl) λa S=>?_;refine gz S dx Z Z Z ?_;exact U5 (u x e H _ j)
 rw[nR d];refine gu S Z (by simp[d]) ?_;refine oE 9 S (λ_=>rfl) λa S=>?_
 by_cases d:C.kd=6
 .rw[nT d];refine gt S Z (by simp[d]) ?_;refine oE 9 S (λ_=>rfl) λa S=>?_;refine gf S Z Z Z cT Z Z Z ?_;refine xu 9 C.A 0 0 λx e j hg=>?_;refine gk S Z Z (t2 x e) Z Z Z Z λa S=>?_;refine oE 9 S (λ_=>rfl) λa S=>?_;refine gz S dx Z Z Z ?_;exact U5 (u x e H _ j)
 rw[nR d];refine gu S Z (by simp[d]) ?_;refine oE 9 S (λ_=>rfl) λa S=>?_
 by_cases d:C.kd=7
 .rw[nT d,M.fc];refine gt S Z (by simp[d]) ?_;refine oE 9 S (λ_=>rfl) λa S=>?_;refine gf S Z Z Z eQ Z Z Z ?_;refine Hs hF T 2 C.A 0 0 λe r' z D j s' t'=>?_;refine gk S Z Z (si e) Z Z Z Z λa S=>?_;refine oE 9 S (λ_=>rfl) λa S=>?_;refine gz S dx Z Z Z ?_;exact U5 (u 0 e H _ j)
 rw[nR d,M.oA];refine gu S Z (by simp[d]) ?_;refine oE 9 S (λ_=>rfl) λa S=>?_;refine gz S dx Z Z Z ?_;exact U5 (u 0 2 H _ go)
noncomputable def bot:Frame:={ (default:Fm') with fn:=V.funcs.size,defers:=[],mode:=.panicking [goexitEntry] }
noncomputable def Ij:jx:=(Tryz.f88.body).getD .skip
noncomputable def vr(o:nY):Deferred :=
 match Tryz.f88.body with
 | some (.seq (.region _ I _) _)=>{ target:=.builtin .close (match I[4]? with|some x=>(match x.op with|.defer c=>c.argTypes|_=>#[])|none=>#[]) 0 #[false],args:=#[.chan (J o.to)] }
 | _=>dW
noncomputable def T4(o:nY):Fm' :=
 match Tryz.f88.body with
 | some (.seq _ (.seq (.region _ I _) c))=>(ja 88).at ⟨#[pO o,Ud,pO o,pO o,Po (J (O o.bo 1 Q)),.chan (J o.to),pO o,Ud,Ud,Ud,Ud,Ud,Ud,Ud,Ud,Ud,Ud,Ud,Ud,Ud,Ud,Ud,Ud,Ud,Ud,Ud],[vr o]⟩ [.inRegion I [1],.code c]
 | _=>dW
noncomputable def Dq(o:nY)(b:Nat):Fm' :=
 match Tryz.f88.body with
 | some (.seq _ (.seq _ (.cond _ (.region _ I _) _)))=>(ja 88).at ⟨#[pO o,Ud,pO o,pO o,Po (J (O o.bo 1 Q)),.chan (J o.to),pO o,Bo true,Ud,pO o,pO o,pO o,pO o,pO o,Po (J (O o.bo 3 Q)),Po (J (O b 0 Q)),Ud,Ud,Ud,Ud,Ud,Ud,Ud,Ud,Ud,Ud],[vr o]⟩ [.inRegion I [7,8,9,10,11,12,13,14,15,16,17,18,19]]
 | _=>dW
noncomputable def zO(o:nY)(b:Nat)(c:Vu):Fm' :=
 match Tryz.f88.body with
 | some (.seq _ (.seq _ (.cond _ (.region _ I _) _)))=>(ja 88).at ⟨#[pO o,Ud,pO o,pO o,Po (J (O o.bo 1 Q)),.chan (J o.to),pO o,Bo true,Ud,pO o,pO o,pO o,pO o,pO o,Po (J (O o.bo 3 Q)),Po (J (O b 0 Q)),c,Ud,Ud,Ud,Ud,Ud,Ud,Ud,Ud,Ud],[vr o]⟩ [.inRegion I [8,9,10,11,12,13,14,15,16,17,18,19]]
 | _=>dW
theorem Uh(o:nY)(w:Wd):bH V false (born V (dcall 88 #[pO o])) w=.go (G ((ja 88).at ⟨#[pO o,Ud,Ud,Ud,Ud,Ud,Ud,Ud,Ud,Ud,Ud,Ud,Ud,Ud,Ud,Ud,Ud,Ud,Ud,Ud,Ud,Ud,Ud,Ud,Ud,Ud],[]⟩ [.code Ij]) [bot]) w #[]:=by
 simp[born,dcall,bH,unwind,callDeferred,invoke,callFunc,Tryz.func88,fO,seen,fj,G,ay,Frame.at,ja,bot,Ij]
theorem UX(b:Array Vu):QuitsD V 2 0 (G { (ja 88).at ⟨b,[]⟩ [] with mode:=.returning } [bot]):=by
 refine QuitsD.ctl (g':=G bot []) Z (λw=>?_) ?_
 .simp[G,bH,unwind,doReturn,di,Frame.at,ja,bot,Tryz.func88,fO,seen,fj,goexitEntry]
 refine QuitsD.ctl (g':={ G bot [] with status:=.finished }) Z (λw=>?_) ⟨Z,Z⟩;simp[G,bH,unwind,bot,goexitEntry,Frame.catches];rfl
theorem RD(o:nY)(g:Array Vu){k:Nat}(h:e.heap[o.to]?=J (.chan b #[] false k k false)) :
  bH V false (G { (ja 88).at ⟨g,[vr o]⟩ [] with mode:=.returning } [bot]) e=.go (G { (ja 88).at ⟨g,[]⟩ [] with mode:=.returning } [bot]) (e.setChan o.to b #[] true k k false) (il o.to):=by
 have i:∀(c:Array Ti) (F:Array Bool),(invoke (.builtin .close c 0 F) #[.chan (J o.to)]).run V e=.ok (.value (.tuple #[])) (e.setChan o.to b #[] true k k false):=λc F=>by
  simp[go_sem,invoke,run_close_open _ _ h,dC]
 have d:∀(c:Array Ti) (F:Array Bool),(invoke (.builtin .close c 0 F) #[.chan (J o.to)]).events V e #[]=il o.to:=λc F=>by
  simp[go_sem,invoke,events_close_open _ _ h,il]
 have j:seen V 88 (il o.to)=il o.to:=seen_eq Zd (by intro l d f;simp only[il,dZ,ae,ai,or_false]at d;rcases d with rfl|rfl<;>simp);unfold vr;simp only[fO];have m:=i;have p:=d;simp[G,bH,unwind,callDeferred,Frame.at,ja,i,d,fj,j]
theorem Gn(C:Ctx)(b:Array Vu):Fg C (G { (ja 88).at ⟨b,[vr C.o]⟩ [] with mode:=.returning } [bot]) :=
 ⟨Z,Z,_,Z,λd k u c=>RD C.o b c,2,UX b⟩
theorem Ro{P:Pg}{j:Bool}{a:db}{k:List bm}{F:List Fm'}{I:Array aN}{d:Builtin}{c:Array aU}{g:Array Ti}(h:I[b]?=J q)(l:bR q (fA I a.tmps)=true)(m:o.kind≠.early)(i:q.op=.defer { callee:=.builtin d,args:=c,argTypes:=g }){D:Deferred}(r:({ target:=.builtin d g q.type (c.map fun|.const _=>true|_=>false),args:=c.map a.eval }:Deferred)=D) :
  bH P j (G (o.at a (.inRegion I (b::p)::k)) F) e=.go (G (o.at (dK ⟨a.tmps,D::a.defers⟩ q.dst Ud) (.inRegion I p::k)) F) e #[]:=by
 have t:(Ex a.eval q).run P e=.ok (.defer D) e:=by
  unfold Ex;simp[i,resolve,←r];intro x y;cases x<;>rfl
 have u:(Ex a.eval q).events P e #[]=#[]:=by
  unfold Ex;simp[i,resolve]
 have v:(o.at ⟨a.tmps,D::a.defers⟩ (.inRegion I (b::p)::k)).finish Ud=o.at (dK ⟨a.tmps,D::a.defers⟩ q.dst Ud) (.inRegion I p::k):=by rw[bK,h];rfl
 have w:(o.kind==CallKind.early)=false:=by simpa using m
 rw[stepG_oper h l,←v];simp[dj,t,u,G,Frame.at,w,fj,seen_none]
theorem c5T(o:nY)(j:o∈R)(B:Nat)(l:∀o∈R,o.bo<B):Sits V false (KO R) (SP R no) B (Q6 o [T4 o,bot]) 34 (born V (dcall 88 #[pO o])):=by
 have m:=ME o R j B l [T4 o,bot];refine .inl ⟨33,dW,Z,?_⟩;refine aO Z λd b=>?_;rw[Uh];simp only[dc];refine⟨de _,?_⟩;clear b;unfold T4 Ij at *;simp only[fO,cW,pO]at *;refine aO Z λd b=>?_;rw[stepG_seq];simp only[dc];refine⟨de _,?_⟩;clear b;refine aO Z λd b=>?_;rw[iH];simp only[dc,aR,bQ,dP,Nat.reduceAdd,aE,aM,List.range.loop];refine⟨de _,?_⟩;clear b;refine aO Z λd b=>cA Z Z Zb λK c=>?_;go_simp;refine c _ _ ⟨⟨Z,λe h=>by(have g:=aZ h;simp[go_sem]at g)⟩,?_⟩;clear c K b;refine aO Z λd b=>cA Z Z Zb λK c=>?_;go_simp;refine c _ _ ⟨⟨Z,λe h=>by(have g:=aZ h;simp[go_sem]at g)⟩,?_⟩;clear c K b;refine aO Z λd b=>cA Z Z Zb λK c=>?_;go_simp;refine c _ _ ⟨⟨Z,λe h=>by(have g:=aZ h;simp[go_sem]at g)⟩,?_⟩;clear c K b;refine aO Z λd b=>cA Z Z Zb λK c=>?_;have i:=Z1 b j;have p:=i.1;have q:=i.2.1;have r:=i.2.2.1;have t:=i.2.2.2;go_simp;refine c _ _ ⟨⟨Z,λe h=>by(have g:=aZ h;simp[go_sem, *]at g;subst g;exact evC_read _ (.inl ⟨o,j,1,by omega,Z⟩) (l o j))⟩,?_⟩;clear c K i p q r t b;refine aO Z λd b=>?_;rw[Ro Z Z Zb Z (D:=vr o) (by unfold vr;simp only[fO];simp[dp])];simp only[dc];refine⟨de _,?_⟩;clear b;simp only[dK];refine aO Z λd b=>?_;rw[jd];simp only[dc];refine⟨de _,?_⟩;clear b;refine aO Z λd b=>?_;rw[stepG_seq];simp only[dc];refine⟨de _,?_⟩;clear b;refine aO Z λd b=>?_;rw[iH];simp only[dc,aR,bQ,dP,Nat.reduceAdd,aE,aM,List.range.loop];refine⟨de _,?_⟩;clear b;refine aO Z λd b=>cA Z Z Zb λK c=>?_;go_simp;refine c _ _ ⟨⟨Z,λe h=>by(have g:=aZ h;simp[go_sem]at g)⟩,?_⟩;clear c K b;refine aO Z λd b=>?_;rw[Z7 Z Z Zb Z jA Z Z (vs:=#[pO o]) (by simp[dp])];simp only[dc];exact⟨de _,m d⟩
theorem PL{C:Ctx}(m:Env C R E e)(t:Bool)(q:Fm')(F:List Fm') :
  l6 V t (DL true (fb R)) (λg j=>∃c d i,g=G (q.finish (rW E c d i)) F/\e.heap.size<=j.heap.size/\(∀k,k<e.heap.size->j.heap[k]?=e.heap[k]?)/\Fit (fb R) j/\qu j c d i E/\e.heap.size<=c/\e.heap.size<=d/\e.heap.size<=i)
   (G (ay V 33 #[Po (J (O C.bk 0 Q))] .normal) (q::F)) e:=by
 let⟨y,z,A⟩:=m.zero
 refine(xC xa Zd m.fit t (Q:=λx l=>∃c d i v,x=rW E c d i/\Lk (fb R) v e/\bG v.heap.size v l/\qu l c d i E/\v.heap.size<=c/\v.heap.size<=d/\v.heap.size<=i)
  (λv u=>(OQ (EC u y z A m.rep)).mono λw l B=>by
   obtain⟨c,d,i,rfl,D,K,P⟩:=B
   exact⟨c,d,i,v,Z,u,D,K,P⟩) q F).keep.mono (λ_ _ _ h=>h) ?_
 rintro g j ⟨⟨x,l,rfl,hl',c,d,i,v,rfl,hl,p,hS,hF,hs,hD⟩,hkp⟩;have S:∀b,e.heap.size<=b->j.heap[b]?=l.heap[b]?:=λb p=>by
  have:fb R b=0:=U7 λo T=>by have:=KO.lt m.ko T;omega
  rw[hl'.heap,this]
  cases w:j.heap[b]? with
  | none=>rfl
  | some x=>rw[aF,yl (hkp.new b x p w)]
 rw[hl.size]at hF hs hD;refine⟨c,d,i,Z,by rw[←hl.size,←hl'.size];exact p.size,λk r=>C7 hkp hl hl' (p.block k (by rw[hl.size];exact r)),hl'.fit,hS.same λk r=>S k ?_,hF,hs,hD⟩;rcases r with rfl|rfl|rfl<;>assumption
variable{l:List nY}{K:aa}{a:Bool}{w:Wd}
theorem Env.set(E:Env C l K w)(v:C.o∈l)(o:w.heap[C.o.bo]?=J (.cells h y (0,0))){j:Nat}(T:3<=j)(x:Vu):Env C l K (w.setCell (O C.o.bo j Q) x):=by
 have b:∀k,k≠C.o.bo->(w.setCell (O C.o.bo j Q) x).heap[k]?=w.heap[k]?:=λk b=>by rw[heap_setCell,nR λe=>b e.symm]
 have p:=EF h y j x w C.o.bo o;let⟨z,A,B,D,P⟩:=E.ap _ v;refine⟨E.rep.same (by simp[cQ]) λk _ g=>b k (by rcases g with rfl|rfl|rfl|rfl<;>first|exact aA z|exact aA A|exact aA B|exact aA D),E.oT.same (b 0 (aA P)),E.inv,⟨λi R=>?_,(V6 E.fit.clear.lk (bh _)).1.oc⟩,λq S=>?_,E.ap⟩
 .by_cases e:i=C.o.bo
  .subst e;exact⟨_,_,p⟩
  .let⟨c,m,g⟩:=E.fit.soft i R;exact⟨c,m,by rw[b i e];exact g⟩
 .let⟨c,m,d,r,t,u⟩:=E.ko q S
  by_cases e:q.bo=C.o.bo
  .rw[e]at d ⊢;rw[o]at d;obtain⟨rfl,rfl,_⟩:=Obj.cells.inj (Ze d);refine⟨_,_,p,?_,?_,?_⟩
   .rw[cX Za];exact r
   .rw[cX Za];exact t
   .rw[cX Za];exact u
  .exact⟨c,m,by rw[b _ e];exact d,r,t,u⟩
theorem oS.set(w:Wd)(j:Nat)(x:Vu):oS C [C.o.bo] w (w.setCell (O C.o.bo j Q) x) :=
 ⟨by simp[cQ],λk _ b _ _ _=>by rw[heap_setCell,nR λe=>b (cD.2 (Eq.symm e))]⟩
theorem LK(x e:Int)(X:Vu)(St:pk C l K pv H free a go w){Stop:Gr->Wd->Prop}(hS:∀v o,Env C l K o->oS C [C.o.bo] w o->(∃t,o.heap[C.o.bo]?=J (.cells (S8 C e x free a go) t (0,0)))->Stop (G { (ja 88).at ⟨v,[vr C.o]⟩ [] with mode:=.returning } [bot]) o)(d0:Nat) :
  l6 V false (DL true (fb l)) Stop (G ((zO C.o C.bk X).finish (.tuple #[Y U x,Y U e])) [bot]) (w.at d0):=by
 let⟨H',A,hH⟩:=St;let⟨t,p⟩:=A.blk;have q:=A.mem;have z:=A.env.set q p (j:=9) Za (Y U x);have j:(w.setCell (O C.o.bo 9 Q) (Y U x)).heap[C.o.bo]?=J (.cells (S8 C 0 x free a go) t (0,0)):=EF _ t 9 _ w C.o.bo p;have B:=z.set q j (j:=8) Za (Y U e);have D:((w.setCell (O C.o.bo 9 Q) (Y U x)).setCell (O C.o.bo 8 Q) (Y U e)).heap[C.o.bo]?=J (.cells (S8 C e x free a go) t (0,0)):=EF _ t 8 _ _ C.o.bo j;have E:w.cell? (O C.o.bo 9 Q)=J (Y U 0):=A.cell Z;have P:w.frozen? (O C.o.bo 9 Q)=false:=by simp[bY,p]
 have R:(w.setCell (O C.o.bo 9 Q) (Y U x)).cell? (O C.o.bo 8 Q)=J (Y U 0):=by simp only[aD,j];rfl
 have S:(w.setCell (O C.o.bo 9 Q) (Y U x)).frozen? (O C.o.bo 8 Q)=false:=by simp[bY,j]
 have T:w.cell? (O C.o.bo 8 Q)=J (Y U 0):=A.cell Z;have M:w.frozen? (O C.o.bo 8 Q)=false:=by simp[bY,p]
 have r:=A.clear;have c':=λv d=>hS v _ (B.at d) (((oS.set w 9 _).trans (oS.set _ 8 _) λi hi=>.inl hi).at d) ⟨t,D⟩;clear z B j D;unfold zO at *;simp only[fO,pO]at *;rw[bK];go_simp;(iterate 6(refine mo Z Z λd g c=>?_;go_simp;refine c _ _ ⟨Z,?_⟩;clear c g));refine C5 Z Z Zb (λd g c=>?_) _;have h:(w.at d).cell? (O C.o.bo 9 Q)=J (Y U 0):=E;have m:(w.at d).frozen? (O C.o.bo 9 Q)=false:=P;go_simp;refine c _ _ ⟨yf (by rw[Q7 q];show 3<=9;omega) (aL _ _ h) λe y=>?_,?_⟩
 .have b:=aZ y;simp only[go_sem]at b;simp[go_sem]at b
  try rw[jy _ _ _ _ _ _ Z]at b
  first|rw[h]at b|rw[E]at b|rw[T]at b
  first|rw[m]at b|rw[P]at b|rw[M]at b
  simp only[aJ,if_false,gI,dS,dZ,ae,ai,or_false]at b;exact b
 clear c g h m;rw[show(w.at d).setCell (O C.o.bo 9 Q) (Y U x)=(w.setCell (O C.o.bo 9 Q) (Y U x)).at d from Z];have r:Clear (w.setCell (O C.o.bo 9 Q) (Y U x)):=(V6 r.lk (bh _)).1.oc;(iterate 3(refine mo Z Z λd g c=>?_;go_simp;refine c _ _ ⟨Z,?_⟩;clear c g));refine C5 Z Z Zb (λd g c=>?_) _;have h:((w.setCell (O C.o.bo 9 Q) (Y U x)).at d).cell? (O C.o.bo 8 Q)=J (Y U 0):=R;have m:((w.setCell (O C.o.bo 9 Q) (Y U x)).at d).frozen? (O C.o.bo 8 Q)=false:=S;go_simp;refine c _ _ ⟨yf (by rw[Q7 q];show 3<=8;omega) (aL _ _ h) λe y=>?_,?_⟩
 .have b:=aZ y;simp only[go_sem]at b;simp[go_sem]at b
  try rw[jy _ _ _ _ _ _ Z]at b
  first|rw[h]at b|rw[R]at b|rw[T]at b
  first|rw[m]at b|rw[S]at b|rw[M]at b
  simp only[aJ,if_false,gI,dS,dZ,ae,ai,or_false]at b;exact b
 clear c g h m;rw[show((w.setCell (O C.o.bo 9 Q) (Y U x)).at d).setCell (O C.o.bo 8 Q) (Y U e)=((w.setCell (O C.o.bo 9 Q) (Y U x)).setCell (O C.o.bo 8 Q) (Y U e)).at d from Z];have r:Clear ((w.setCell (O C.o.bo 9 Q) (Y U x)).setCell (O C.o.bo 8 Q) (Y U e)):=(V6 r.lk (bh _)).1.oc;refine i8 (λd=>?_) _;refine mc Z (λu=>stepG_end) λd=>.stop (c' _ _)
theorem SZ(x e:Int):i9 C n (λ_=>.done x e) [] H free go (G ((zO C.o C.bk j).finish (.tuple #[Y U x,Y U e])) [bot]):=by
 refine⟨λm l q r T K a w y c M S P d=>?_,λu l q r K a w c M S d=>?_⟩
 .obtain rfl:T=(K,λ_=>.done x e):=by rcases P with⟨_,h⟩|⟨_,h⟩<;>rw[h]<;>rfl
  refine LK x e j c (λg v E o b=>?_) d;let⟨t,b⟩:=b;exact⟨E,M.trans o (λi p=>by cases Zi p;exact S _ (ao ..)),Gn C g,t,_,_,_,b⟩
 .subst u;refine LK x e j c (λg v E o b=>?_) d;exact⟨E,M.trans o (λi p=>by cases Zi p;exact S _ (ao ..)),Gn C g⟩
def m8(C:Ctx)(p:Nat)(K:aa):j6:=(AQ K p C.kd C.A C.B).then false (λz _=>λ_=>.done z.1 z.2)
theorem Kk{pv:List Nat}{H:y6}{f:Nat->Vu}{w:Wd}(g:w.rowIs b c d f)(h:b∈pv)(i:w.heap[b]?=J (H b)):Row pv H b c d f:=by
 let⟨j,e,m,o⟩:=g;rw[i]at e;exact⟨h,j,Ze e,m,o⟩
theorem c1W(S:C.slot=b)(T:b<K.nS)(A:At C l K [C.o.bo] H free a false w)(X:Nat) :
  l6 V false (DL true (fb l)) (tP C (tz C n) l w [C.o.bo] (tf C.slot (m8 C b K) K)) (bI (P8 C.o [T4 C.o,bot]) BM) (w.at X):=by
 let⟨t,v,M2⟩:=A.set (j:=11) (x:=Bo true) (free':=free) (un':=true) (go':=false) Za Z;refine Ni (o:=C.o) A.mem A.clear A.env.ko (A.cell (j:=11) Z) (λd=>?_) X;generalize w.setCell ⟨C.o.bo,11,none⟩ (.bool true)=y at *;have hc:=v.clear;have c3:y.cell? (O C.o.bo 3 Q)=J (Po (J (O C.bk 0 Q))):=v.cell Z;have b':∀d,l6 V false (DL true (fb l)) (tP C (tz C n) l w [C.o.bo] (tf C.slot (m8 C b K) K)) (G (ay V 33 #[Po (J (O C.bk 0 Q))] .normal) [Dq C.o C.bk,bot]) (y.at d):=λd=>by
  refine(PL (v.env.at d) false (Dq C.o C.bk) [bot]).then ?_;rintro g j ⟨q,r,D,rfl,hsz,hk,hfit,hS,hF,hs,hD⟩;have c':∀o,y.heap.size<=o->o<j.heap.size->j.heap[o]?=J ((j.heap[o]?).getD dW):=λo _ h=>by rw[bE h];rfl
  have lt:∀ {g t m f},j.rowIs g t m f->g<j.heap.size:=λh=>by let⟨c,h1,_⟩:=h;exact(Zj h1).1
  have B:=(v.at d).qv (bs:=[q,r]) (Hn:=λo=>(j.heap[o]?).getD dW) hfit hsz hk (λo R=>by
   rcases ae.1 R with rfl|R
   .exact⟨hF,c' _ hF (lt hS.f)⟩
   .cases Zi R
    exact⟨hs,c' _ hs (lt hS.s)⟩)
  have h':∀o,y.heap.size<=o->o≠C.o.bo:=λo R e=>by
   have:=(Zj (v.has _ v.own.rc)).1;omega
  obtain⟨E,B⟩:∃E,At C l K ([C.o.bo]++[q,r]) E free true false j:=⟨_,B⟩
  have St:pk C l K [q,r] E free true false j:=⟨E,B,λi p=>⟨h' i (by
   rcases ae.1 p with rfl|p
   .exact hF
   .cases Zi p;exact hs),Z⟩⟩
  have e':=b3d (C:=C) (n:=CS n true) (go:=false) (free:=free) (pv:=[q,r]) (H:=E) K q r D b v.env.rep.hF (Zh v.env.rep.hS Za) T S (Kk hS.f Zc (B.has q Zc)) (Kk hS.s Zc (B.has r Zc)) (zO C.o C.bk (rW K q r D)) [bot] (λz _=>λ_=>.done z.1 z.2) λx e H' j' k'=>SZ x e;have M3:oS C [C.o.bo] w j:=M2.trans (⟨hsz,λk i' _ _ _ _=>hk k i'⟩:oS C [C.o.bo] y j) λi p=>.inl p
  have f':=e'.1 n l w [C.o.bo] (tf C.slot (m8 C b K) K) K true j (af _) St M3 (λi p=>by
   rcases ae.1 p with rfl|p
   .exact .inl Zc
   .refine .inr (Zh M2.size ?_);rcases ae.1 p with rfl|p
    .exact hF
    .cases Zi p;exact hs) (.inl ⟨Z,Z⟩)
  have l':Clear j:=hfit.clear;clear e' St B;have g':∀d,l6 V false (DL true (fb l)) (tP C (tz C n) l w [C.o.bo] (tf C.slot (m8 C b K) K)) (G (ay V 107 #[pO C.o,rW K q r D] .normal) [zO C.o C.bk (rW K q r D),bot]) (j.at d):=f';clear f';unfold Dq;unfold zO at g';simp only[fO,pO]at *;rw[bK];generalize tP C (tz C n) l w [C.o.bo] (tf C.slot (m8 C b K) K)=SS at *;clear S T;rw[show j=j.at j.drawn from Z];generalize j.drawn=dd;simp only[dK];go_simp;refine mc Z (λu=>Z7 Z Z Zb Z dx Z Z (vs:=#[pO C.o,rW K q r D]) (by simp[dp]) u) λd=>g' _
 generalize tP C (tz C n) l w [C.o.bo] (tf C.slot (m8 C b K) K)=SS at *;clear S T;unfold T4;unfold Dq at b';simp only[fO,pO]at *;rw[bK];go_simp;refine i8 (λd=>?_) _;refine mc Z (λu=>fU (t:=true) Z) λd=>?_;simp only[if_true,if_false,aJ,↓reduceIte];refine m9 (λd=>?_) _;simp only[rz,ix,Nat.reduceAdd];(iterate 6(refine mo Z Z λd M P=>?_;go_simp;refine P _ _ ⟨Z,?_⟩;clear P M));refine mo Z Z λd M P=>?_;have e3:(y.at d).cell? (O C.o.bo 3 Q)=J (Po (J (O C.bk 0 Q))):=c3;go_simp;refine P _ _ ⟨Z,?_⟩;clear P M;refine mc Z (λu=>Z7 Z Z Zb Z Tryz.func33 Z Z (vs:=#[Po (J (O C.bk 0 Q))]) (by simp[dp]) u) λd=>b' _
theorem WJ(A:At C l K [C.o.bo] H free a false w)(b:Nat) :
  l6 V false (DL true (fb l)) (zj C l K w [C.o.bo]) (bI (P8 C.o [T4 C.o,bot]) BU) (w.at b):=by
 refine Pa (o:=C.o) A.mem A.clear (λd=>?_) b;have e:=λc d=>(⟨A.env.at d,(oS.refl C [C.o.bo] w).at d,Gn C c⟩:zj C l K w [C.o.bo] (G { (ja 88).at ⟨c,[vr C.o]⟩ [] with mode:=.returning } [bot]) (w.at d))
 have g:=A.clear;unfold T4;simp only[fO,pO]at *;rw[bK];go_simp;refine i8 (λd=>?_) _;refine mc Z (λu=>fU (t:=false) Z) λd=>?_;simp only[if_true,if_false,aJ,↓reduceIte];refine DO (λd=>?_) _;refine mc Z (λu=>stepG_end) λd=>.stop (e _ _)
end Go.Proofs.YtcgabodkegcpgaaGreatDoor
