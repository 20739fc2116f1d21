/- The book of lists, in company: a list is owned, whole. -/
import Derived.Test.YtcgabodkegcpgaaGreatDoorAaa
import Derived.Test.YtcgabodkegcpgaaGreatDoorRf5
import Derived.Test.YtcgabodkegcpgaaGreatDoorIvb
import Derived.Conc.Beside
import Derived.Conc.LeavingOf
import Derived.Laws.CopyRow
import Derived.Test.YtcgabodkegcpgaaGreatDoorProg
import Derived.WalkKit
import Derived.Deep.MidRow
import Derived.Test.YtcgabodkegcpgaaGreatDoorKer
import Derived.Test.YtcgabodkegcpgaaGreatDoorMcd
import Derived.ProofKit
import Derived.OpenShut
import Derived.Deep.Grids
import Derived.Deep.DeepHandedRow
import Derived.Deep.Strs
import Derived.Laws.IdiomArrays
set_option linter.unusedVariables false
set_option linter.unusedSimpArgs false
set_option maxHeartbeats 20000000
set_option maxRecDepth 100000
open Option renaming some->J,none->Q,none->G',map_some->aD,isSome_iff_exists->cH,map_eq_some_iff->dC
open Go.Proofs.Tryz renaming prog->V,prog->J',func9->dO,func19->ga,func17->gh,underlying3->gI,func8->gL,func52->gX,func10->gZ,func22->iw,func21->iy,func20->iz,func48->iF,underlying88->iU,func23->jx,func18->jy,func11->jz,func53->jJ,func12->jW,func47->lL,func46->lM,func24->mD
open Go renaming World->Wd,Value->Vu,undef->Ud,Frame->Fm',Goroutine->Gr,TypeId->Ti,execOp->Ex,Program->Pg,Calls->aF,Oper->aL,Operand->aS,Item->bh,FuncId->bC,stepG->bF,Addr->cx,heap_alloc_new->cC,Act->cZ,Value->dM,run_underlying->gQ,Machine->gW,maxLen->iT,Code->jj,run_storeCells_cells->jL,Trace->lT
open Go.Value renaming int->Y,pointer->Po,slice->Sc,bool->Bo,slice->di
open Go.IntKind renaming i64->U
open Go.Addr renaming mk->O,add_mid->eG,add->kE
open List renaming mem_cons->ae,not_mem_nil->aj,range->aO,getElem?_eq_getElem->bj,getElem?_eq_some_iff->bD,mem_append->bZ,cons_append->cj,mem_singleton->cz,getD_eq_getElem?_getD->cG,map_cons->cX,mem_append_right->da,map_toArray->dq,mem_filter->dx,mem_map_of_mem->dB,map_nil->eE,getElem?_take->eO,nil_append->eP,getElem?_eq_none->eX,mem_append_left->fK,map_congr_left->iI,append_assoc->jr,getElem?_take_of_lt->kD
open Nat renaming le_refl->af,zero_add->aE,beq->aG,add_assoc->aP,zero_le->aW,lt_or_ge->bQ,one_pos->cJ,le_of_eq->fF,not_lt_zero->ik,lt_irrefl->iA,mul_le_mul_right->jF,add_zero->jZ,sub_zero->kY,succ_mul->mH,eq_zero_or_pos->mR
open Go.ConcN renaming upd->ai,upd_ne->az,upd_same->aH
open Go.RowKit renaming Hid->ar,Below->bE
open Prod.mk renaming inj->ax,injEq->cR
open Go.Frame renaming enter->ay
open Ne renaming symm->aA
open Bool renaming and_eq_true->aB
open Go.World renaming cell?->aC,block_lt_of_cell?->aK,ownsRow_nil->dc
open Go.RowKit.Below renaming heap_alloc->aJ,refl->bz
open Go.Builtin renaming nextslicecap->aR,copy_->dp,firstCells->kH,lenOf->mO
open Go.CallKind renaming normal->aV
open Or renaming inr->ba,inl->bP
open Option.some renaming injEq->bm
open Int renaming eq_ofNat_of_zero_le->cT
open And renaming intro->db
open Go.GStep renaming after->eY
open Go.Conc renaming Seat->eZ,Good->jQ,resultsC_tmp->kF
open List.cons renaming injEq->fG
open Go.Value.slice renaming inj->gT
open Go.Instr renaming makeSlice->ic
open Go.DataW renaming trod->iJ,trod_int->jR
namespace Go.Proofs.YtcgabodkegcpgaaGreatDoor
noncomputable section
open Go.RowKit
variable{a b c d:Nat}{e f g h i:Int}{j k l:Wd}{m:cZ}{n o p:Nat->Vu}{q r:Vu}{s t:Array Vu}{u v:l9}{w x:Nat->Nat}{y z:Mem}{A:List Vu}{B:aa}{C D:Lv}{E F H:Nat->Option Lv}{I:Nat->Option eZ}{K:List ng}
section
open Go.Conc
variable{o u:Nat->Nat}{w b:Wd}{C:Bool}{t z:Nat}{r:Nat->Vu}{N:Nat->Nat}{A:Nat->Option BkB}{c k n g v:Nat}{W:List Nat}{Stop:Gr->Wd->Prop}{E:Fm'}{D:List Fm'}{F:Nat->Nat}{l0:Vu}{j:Nat}{y:Option cx}
section
variable{X:Nat->List Vu}
theorem fx.vC{f:ou}{l i:Mem}{p:l9}(M:fx o W a w f l d p m b)(n:Nat)(x:n=f.length)(q:rP n l (i.map λe=>(e.1,e.2.1))=J i):fx o W a w f i d p m b:=M.fewer (λ_ h=>h) λe s=>(AW q e s).1
theorem fx.alike{ρ:ou}(p:ou){i f:Mem}{l h:l9}(M:fx o W a w (ρ++p) i d l m b)(n:Nat)(q:n=ρ.length)(s:uV n l (h.map (·.1))=J h)(x:rP n i (f.map λe=>(e.1,e.2.1))=J f):fx o W a w ρ f d h m b:=M.oS n _ _ q s x
theorem uI{a:Mem}{d:l9}(M:fx o W 0 w [(t,0),(z,0)] a 58 d m b):F7 o b t:=M.bl 0 Zc
theorem uF{a:Mem}{e:l9}(M:fx o W 0 w [(t,0),(z,0)] a 58 e m b)(f:qG a 0 0=J (.v (r 0)))(i:qG a 0 1=J (.v (r 1)))(l:qG a 0 2=J (.v (r 2)))(p:qG a 0 3=J (.v (r 3))):∀d,d<4->b.cell? (O t d Q)=J (r d):=λd q=>by
 have h:∀d,qG a 0 d=J (.v (r d))->b.cell? (O t d Q)=J (r d):=λd h=>by have:=M.ld 0 d h;simpa[nJ,nI.den] using this
 grind
theorem TO(e:c<4)(hk:k<=7036874417564):∀(f i:Nat) (n v:Nat) (y:Option cx) (r:Nat->Vu) (N:Nat->Nat) (X:Nat->List Vu) (A:Nat->Option BkB) (h:cZ) (b:Wd),i+f=3->n+f<=7036874417568->(∀j,j<f->aR (n+j+1) (n+j)*yB c<=281474976710656)->Yo o u w t z c k F l0 r N X A (.slice y n v) n (i+1) b ->
  fx o (yW u w l0) 0 w [(t,0),(z,0)] (EA c r (yM k)) 58 (Ey (.slice y n v) k++[(7,.c (ci i)),(39,.c (.v (Bo (decide ((i:Int)<3)))))]) h b ->
  (∀r N X A l n b,Yo o u w t z c k F l0 r N X A l n 4 b->nC o (yW u w l0) w b->iv V C true o Stop (G (E.finish (.tuple #[])) D) b)->iv V C true o Stop (G ((base (yF c)).at h (Te c)) (E::D)) b:=by
 intro f
 induction f with
 | zero =>
  intro i n v y r N X A h b L P x a M m;obtain rfl:i=3:=by omega
  cases c,(Za:c<4) using eL
  all_goals
   refine nR M Z Zc<|p7 200 2 [] M Z Z mX λR B d S=>EH d (yn e) Z Z Z<|m _ _ _ _ _ _ B (a.kq S (uI d) (uF d Z Z Z Z)) d.hJ
 | succ f T =>
  intro i n v y r N X A h b L P x a M m;have e1:=C7 (n:=i) Za;have a':=x 0 Za;have b':aR (N c+1) (N c)*32<=281474976710656:=DD (by rw[a.nc];omega) Za;have hN:=a.nc;cases c,(Za:c<4) using eL
  all_goals
   refine nV M Z (decide_eq_true Za)<|p7 200 2 [] M Z Z mX λa1 w1 p q1=>?_;have H:=a.kq q1 (uI p) (uF p Z Z Z Z);refine Af (QR e) p H.FF (aW _) Za a' Z Z Z Z Z Z Z Z Z Z Z Z Z λR B g c' f' L2 d hp O2 og=>?_;cases Ze hp;have Y2:=H.more L2 (by rw[Fb];exact O2) og (uI d) (uF d Z Z Z Z);refine p7 200 2 [] d Z Z mX λa3 w3 q q3=>?_;have I:=Y2.kq q3 (uI q) (uF q Z Z Z Z);refine Af (MJ e) q (I.Be e) (aW _) Za b' Z Z Z Z Z Z Z Z Z Z Z Z Z λa4 w4 g4 g' h' L4 M4 d' O4 e'=>?_;cases Ze d';refine p7 200 2 [] M4 Z Z mX λa5 w5 s q5=>?_;have K:=s.oo 2 [0,1,4,5,7,39] Z Z;rw[e1]at K;have Y5:=I.push e Za Za L4 O4 e' q5 (uI s) (uF s Z Z Z Z);refine T (i+1) (n+1) c' _ _ _ _ _ a5 w5 Za Za (λj hj=>?_) Y5 (K.vC 2 Z Z) m
   grind
theorem Ku(d:c<4)(i:k<=7036874417564)(T:n+3<=7036874417568)(p:∀j,j<3->aR (n+j+1) (n+j)*yB c<=281474976710656)(a:Yo o u w t z c k F l0 r N X A (.slice y n v) n 0 b)(M:fx o (yW u w l0) 0 w [(t,0),(z,0)] (EA c r (yM k)) 58 (Ey (.slice y n v) k) m b)(q:∀r N X A l n b,Yo o u w t z c k F l0 r N X A l n 4 b->nC o (yW u w l0) w b->iv V C true o Stop (G (E.finish (.tuple #[])) D) b):iv V C true o Stop (G ((base (yF c)).at m (OX c)) (E::D)) b:=by
 have hN:=a.nc;have s:aR (N c+1) (N c)*32<=281474976710656:=DD Za Za;cases c,(Za:c<4) using eL
 all_goals
  refine p7 200 2 [] M Z Z mX λa3 w3 e x=>?_;have h:=a.kq x (uI e) (uF e Z Z Z Z);refine Af (MJ d) e (h.Be d) (aW _) Za s Z Z Z Z Z Z Z Z Z Z Z Z Z λa4 w4 g4 a' b' B H I K L=>?_;cases Ze I;refine p7 200 2 [] H Z Z mX λP R f S=>TO d i 3 0 n v y _ _ _ _ P R Z Za p (h.push d Za Za B K L S (uI f) (uF f Z Z Z Z)) ((f.oo 2 [0,1,4,5,7,39] Z Z).vC 2 Z Z) q
theorem RY(i:w.heap[g]?=J (.cells s (yE c) (0,0)))(H:n*yZ c<=s.size)(l:∀j,j<n->w.rangeAt g (j*yZ c) (yV c e)):s.toList.take (n*yZ c)=yR c e n:=by
 apply List.ext_getElem?;intro q;have m:=d0B c;rcases bQ q (n*yZ c) with h|h
 .have a:q / yZ c<n:=Nat.div_lt_of_lt_mul (by grind);have p:q%yZ c<yZ c:=Nat.mod_lt _ m;have d:(yV c e)[q%yZ c]?=J ((yV c e)[q%yZ c]'(by rw[EG];exact p)):=bj _;have f:=l _ a _ _ d;have x:=GB c e a d;have B:q / yZ c*yZ c+q%yZ c=q:=by rw[Nat.mul_comm];exact Nat.div_add_mod q _
  rw[B]at f x;simp only[aC,i]at f
  grind
 .rw[eX (by simp;omega),eX (by rw[zb];exact h)]
theorem I1{xs:List Vu}(T:c<4)(B:pG o u w t r N X A)(l':Fit o w)(m':∀k,w.heap.size<=k->o k=0)(hl:w.ownsRow 0 (yE c) (yZ c) (.slice y n v) n xs)(n':∀g,(di y n v).ownBlock=J g->o g=0/\A g=Q)(hN:N c<=7036874417564)(hn:n+3<=7036874417568)(i':∀j,j<3->aR (n+j+1) (n+j)*yB c<=281474976710656) :
  oL C o (yF c) #[Po (J (O t 0 Q)),.slice y n v] w λx b=>x=.tuple #[]/\nC o (yW u w (.slice y n v)) w b/\∃V' I X' K,pG o (qL u K) b t V' I X' K/\I c=N c+4/\(∀d,d≠c->I d=N d)/\∀q,q<w.heap.size->(K q).isSome=true->u q=6\/(di y n v).ownBlock=J q:=by
 obtain⟨G,pv,m⟩:∃(G:Nat->Option cx) (pv:Nat->Nat),∀c,c<4->r c=.slice (G c) (N c) (pv c):=⟨λc=>match r c with|.slice a _ _=>a|_=>Q,λc=>match r c with|.slice _ _ p=>p|_=>0,λc T=>by
  let⟨a,p,e⟩:=B.form T
  simp only[e]⟩
 have kA:qL u A=u:=by
  funext q;unfold qL;split
  .next h=>let⟨x,hx⟩:=cH.1 h;exact(B.blk q x hx).1.symm
  .rfl
 have o':∀q,(A q).isSome=true->u q=6:=λq h=>by let⟨x,hx⟩:=cH.1 h;exact(B.blk q x hx).1
 have p':=B.bl.1.lt;refine y7 (f:=yF c) (sz:=58) (ρ:=[(t,0)]) (ro:=0) (W:=yW u w (.slice y n v)) (m:=[(0,0,.v (.slice (G 0) (N 0) (pv 0))),(0,1,.v (.slice (G 1) (N 1) (pv 1))),(0,2,.v (.slice (G 2) (N 2) (pv 2))),(0,3,.v (.slice (G 3) (N 3) (pv 3)))]) [.c (.p 0 0),.c (.v (.slice y n v))] ⟨λe he=>?_,λi hi=>?_,λi j hi hj j'=>?_,λi _ hi=>?_,l',m'⟩ (λs hs=>?_) (yn T) (c:=((Bf c).body).getD .skip) ?_ ?_ Z λStop E D q' M hx=>?_
 .simp only[ae,aj,or_false]at he;rcases he with rfl|rfl|rfl|rfl<;>refine⟨cJ,mX,?_⟩
  .exact(B.xO 0 Za).trans (by rw[m 0 Za];rfl)
  .exact(B.xO 1 Za).trans (by rw[m 1 Za];rfl)
  .exact(B.xO 2 Za).trans (by rw[m 2 Za];rfl)
  .exact(B.xO 3 Za).trans (by rw[m 3 Za];rfl)
 .obtain rfl:i=0:=Zm hi;exact B.bl.1
 .grind
 .obtain rfl:i=0:=Zm hi;exact fK _ (A6.2 ⟨p',by show aG (u t) 6=true;rw[B.bl.2];rfl⟩)
 .simp only[ae,aj,or_false]at hs;rcases hs with rfl|rfl<;>first|trivial|exact cJ
 .cases c,(Za:c<4) using eL
  all_goals rfl
 .cases c,(Za:c<4) using eL
  all_goals rfl
 have t':aR (N c+1) (N c)*32<=281474976710656:=DD Za Za;have e0:=m 0 Za;have e1:=m 1 Za;have e2:=m 2 Za;have e3:=m 3 Za;cases c,(Za:c<4) using eL
 all_goals
  refine zY 200 1 [] M Z Z Z mX λa1 w1 z H q1 f1=>?_;have H:=H.oo 2 [0,1,4,5,6,19] Z Z;simp only[←e0,←e1,←e2,←e3]at H;have o1:∀q,q<w.heap.size->q≠t->w1.heap[q]?=w.heap[q]?:=λq R h=>q1.old q R λj hj=>by obtain rfl:j=0:=Zm hj;exact aA h
  have n5:A z=none:=by
   cases h:A z with
   | none=>rfl
   | some x=>have:=(B.blk _ _ h).2.lt;omega
  have B1:=B.to (κ':=qL u A) (uI H) (uF H Z Z Z Z) (λg x _=>by rw[kA]) λg x hg j'=>o1 g (B.blk g x hg).2.lt j';rcases hl.2 with⟨e,rfl⟩|⟨g,cp,cur,e,_,hg,hnc,hcm,hcs,_⟩
  .obtain⟨rfl,_,rfl⟩:=gT e;refine nR H Z Zc<|p7 1 2 [] H Z Z mX λa2 w2 S q2=>Ku T hN hn i' (Yo.kq (w1:=w1) ⟨B1,dc _ _ _ _,λg hg=>(by cases hg),Z,λ_ _=>rfl,λq _ h=>.inl (o' q h),n5,f1⟩ q2 (uI S) (uF S Z Z Z Z)) ((S.oo 2 [0,1,4,5] Z Z).vC 2 Z Z) λV' I X' K l n b f L=>hx _ _ ⟨Z,L,V',I,X',K,f.b,f.nc,f.nd,f.old⟩
  .obtain⟨rfl,_,rfl⟩:=gT e;let⟨sg,gA⟩:=n' g Z;have gb:g≠t:=λe=>by rw[e,B.hd]at gA;cases gA
   have k':=(Zj hg).1;have hz:=Zh (jF _ hnc) (fF hcs.symm);refine Rq T (da _ (cz.2 Z)) gb k' sg Za f1 n 0 a1 w1 cur Za ((o1 g k' gb).trans hg) hz (λj hj=>absurd hj (ik j)) (H.vC 2 Z Z) λq' w2 r' z2 o2 h' s2 m2 S=>?_;have P:=B1.mark (w':=w2) (g:=g) (m:=n) (.inl gA) (uI S) (uF S Z Z Z Z) ⟨⟨_,_,h'⟩,sg⟩ (λq x R h1 h2=>o2 q (B1.blk q x R).2.lt h2 h1 λe=>by grind) m2
   rw[Hj λq R=>by
    by_cases e:q=g
    .grind
    .rw[az _ _ e];exact R]at P
   refine Ku (l0:=Sc (J (O g 0 Q)) n v) T hN hn i' ⟨P,⟨zb _ _ _,.inr ⟨g,v,r',Z,aW _,h',hnc,hcm,by rw[s2,hcs],RY h' (by rw[s2];exact hz) m2⟩⟩,λq R=>?_,Z,λ_ _=>rfl,λq _ h=>?_,?_,f1⟩ S λV' I X' K l n b f L=>hx _ _ ⟨Z,L,V',I,X',K,f.b,f.nc,f.nd,f.old⟩
   .obtain rfl:g=q:=Ze R;simp[ai]
   .by_cases e:q=g
    .subst e;exact .inr Z
    .rw[az _ _ e]at h;grind
   .rw[az _ _ Za];exact n5
end
end
section
attribute [local go_sem ↓] Go.wp_at_zero Go.wp_at_succ
theorem Vq(c:∀j,j<3->W8 s j)(d:∀j,j<3->W8 t j):qH V (a+2) 27 (.agg s) (.agg t):=by
 refine Z7 Zd Zd ?_;have e:(V.fieldsOf 27).toList.map (λf=>(f.name != "_",f.type,f.offset))=[(true,3,0),(true,3,1),(true,3,2)]:=by kernel_rfl
 intro f g;have b:=dB (f:=λf:Field=>(f.name != "_",f.type,f.offset)) g;rw[e]at b;generalize h:(f.name != "_")=n at b;generalize f.type=i at *;generalize f.offset=k at *;simp at b;rcases b with⟨rfl,rfl,rfl⟩|⟨rfl,rfl,rfl⟩|⟨rfl,rfl,rfl⟩
 all_goals exact⟨by simpa using h,X4 (c _ Za) (d _ Za)⟩
theorem b8g(e:W8 s b)(f:W8 t b):∃c d,Pt V 45 s b c/\Pt V 45 t b d/\qH V (a+1) 45 c d:=by
 let⟨v,g⟩:=e;let⟨u,h⟩:=f;exact⟨_,_,sG Tryz.isAgg45 g,sG Tryz.isAgg45 h,PF (k:=.i64) Tryz.underlying45 v u⟩
theorem To{d:Nat}(b:∀j,j<5->W8 s j)(c:∀j,j<5->W8 t j):qH V (d+3) 92 (.agg s) (.agg t):=by
 refine Z7 Zd Zd ?_;have e:(V.fieldsOf 92).toList.map (λf=>(f.name != "_",f.type,f.offset))=[(true,27,0),(true,45,3),(true,3,4)]:=by kernel_rfl
 intro f h;have a:=dB (f:=λf:Field=>(f.name != "_",f.type,f.offset)) h;rw[e]at a;generalize g:(f.name != "_")=n at a;generalize f.type=k at *;generalize f.offset=l at *;simp at a;rcases a with⟨rfl,rfl,rfl⟩|⟨rfl,rfl,rfl⟩|⟨rfl,rfl,rfl⟩
 .exact⟨by simpa using g,_,_,te Tryz.isAgg27 Tryz.sizeOf27,te Tryz.isAgg27 Tryz.sizeOf27,Vq (λj i=>W8.cut (a:=0) (by rw[aE];exact b j Za) Za) λj i=>W8.cut (a:=0) (by rw[aE];exact c j Za) Za⟩
 .exact⟨by simpa using g,b8g (b _ Za) (c _ Za)⟩
 .exact⟨by simpa using g,X4 (b _ Za) (c _ Za)⟩
end
section
open Go.Conc
def BD(c:Nat)(a:List Vu):Prop:=match c with
 | 0=>∀j,j<6->W8 a.toArray j
 | 1=>rZ a.toArray
 | _=>∀j,j<5->W8 a.toArray j
theorem QJ(a:c<4)(h:BD c A):Ky (yE c) A A true:=by
 let⟨r,b,e⟩:=Ql (t:=yE c) (a:=A) (b:=A) (by
  cases c,(Za:c<4) using eL
  .exact ZE (d:=9997) h h
  .exact Rd (d:=9996) h h
  .exact c2o (d:=9998) h h
  .exact To (d:=9997) h h)
 grind
theorem XG(d:a<4)(x:Int):BD a (yV a x):=by
 cases a,(Za:a<4) using eL
 .exact λj b=>by match j,b with|0,_|1,_|2,_|3,_|4,_|5,_=>exact⟨_,Z⟩
 .refine⟨⟨_,Z⟩,⟨_,Z⟩,⟨_,Z⟩,λi c=>?_,λi c=>?_,⟨_,Z⟩⟩<;>match i,c with|0,_|1,_|2,_|3,_=>exact⟨⟨_,Z⟩,⟨_,Z⟩⟩
 .exact λj b=>by match j,b with|0,_|1,_|2,_|3,_|4,_=>exact⟨_,Z⟩
 .exact λj b=>by match j,b with|0,_|1,_|2,_|3,_|4,_=>exact⟨_,Z⟩
theorem JY{o:aL}(b:a<4){x y:aS}(c:o.op=.binOp .neq (yE a) x y (yE a))(d:m.eval x=.agg A.toArray)(e:m.eval y=.agg A.toArray)(h:BD a A):(Ex m.eval o).run V j=.ok (.value (Bo false)) j:=by
 have f:=QJ b h j
 have g:=run_eqGuard_agg (P:=V) (w:=j) .neq (yE a) x y A.toArray A.toArray (by
  cases a,(Za:a<4) using eL
  all_goals kernel_rfl)
 unfold Ex
 simp_all
def Fz(c:Nat):jj:=match Tryz.f10.body with
 | some (.seq _ (.seq l0 (.seq l1 (.seq l2 (.seq l3 r)))))=>match c with|0=>l0|1=>l1|2=>l2|_=>l3
 | _=>.skip
def zV(c:Nat):jj:=match Tryz.f10.body with
 | some (.seq _ (.seq l0 (.seq l1 (.seq l2 (.seq l3 r)))))=>match c with|0=>.seq l1 (.seq l2 (.seq l3 r))|1=>.seq l2 (.seq l3 r)|2=>.seq l3 r|_=>r
 | _=>.skip
def Lz(c:Nat):List bh:=match Fz c with
 | .seq _ (.block b (.loop (.seq (.seq x y) z)))=>[.code y,.code z,.inLoop (.seq (.seq x y) z),.inBlock b,.code (zV c)]
 | _=>[]
def d1w(c:Nat):List bh:=match Fz c with
 | .seq _ (.block b (.loop (.seq xy (.seq (.block b1 (.seq r4 (.seq r5 (.block b2 (.loop (.seq (.seq x2 y2) z2)))))) r3))))=>[.code y2,.code z2,.inLoop (.seq (.seq x2 y2) z2),.inBlock b2,.inBlock b1,.code r3,.inLoop (.seq xy (.seq (.block b1 (.seq r4 (.seq r5 (.block b2 (.loop (.seq (.seq x2 y2) z2)))))) r3)),.inBlock b,.code (zV c)]
 | _=>[]
abbrev Fa(h:∀d,d<b->j.rangeAt a (d*c) A):List dM:=A
abbrev En(c a m b:Nat):Mem:=[(0,c,.v (Sc (J (O a 0 Q)) m b))]
abbrev Nz(c i m:Nat):l9:=[(0,.c (.p 0 0)),(3+3*c,.c (ci i)),(21+45*c,.c (.v (Bo (decide ((i:Int)<m)))))]
variable{sft u:Nat->Nat}{w p:Wd}{main:Bool}{bb b4:Nat}{t:Nat->Vu}{N:Nat->Nat}{A:Nat->Option BkB}{c k n m g gl cp q i:Nat}{a:Option cx}{Stop:Gr->Wd->Prop}{fr:Fm'}{cs:List Fm'}
section
variable{X:Nat->List Vu}
theorem Uz(C:c<4)(hm:m<=8000000000000)(hi:i<m)(D:n<=8000000000000)(E:gl<w.heap.size)(F:w.cell? (O gl (i*2) Q)=J (.slice a n q))(T:0<n->∃g,a=J (O g 0 Q)/\g<w.heap.size/\∀j,j<n->w.rangeAt g (j*yZ c) (yV c (yM k))):∀(f j:Nat) (b:cZ) (p:Wd),j+f=n ->
  fx sft [] 1 w [(bb,0),(b4,0)] (En c gl m cp++FX (yV c (yM k)) 0) 195 [(0,.c (.p 0 0)),(3+3*c,.c (ci i)),(4+3*c,.c (.p 1 0)),(5+3*c,.c (ci j)),(44+45*c,.c (.v (Bo (decide ((j:Int)<n)))))] b p ->
  (∀b p,fx sft [] 1 w [(bb,0)] (En c gl m cp) 195 (Nz c (i+1) m) b p->iv V main true sft Stop (G ((base 10).at b (Lz c)) (fr::cs)) p)->iv V main true sft Stop (G ((base 10).at b (d1w c)) (fr::cs)) p:=by
 intro f
 induction f with
 | zero =>
  intro j b p W M x;obtain rfl:j=n:=by omega
  have y:=C7 (n:=i) Za;cases c,(Za:c<4) using eL
  all_goals
   refine nR M Z Zc<|ia 200 2 [] M Z Z mX λH z l=>?_;rw[y]at l;exact x H z (fx.alike (ρ:=[(bb,0)]) [(b4,0)] l 1 Z Z Z)
 | succ f ih =>
  intro j b p W M x;have y:=C7 (n:=j) Za;obtain⟨g,rfl,hg,v⟩:=T Za;cases c,(Za:c<4) using eL
  all_goals
   refine nV M Z (decide_eq_true Za)<|ia 200 2 [] M Z Z mX λH z l=>uU [(12,J (.c (.v (Bo false))))] [[Sc (J (O g 0 Q)) n q],Fa v] false (λs B d' p=>d'=[(bb,0),(b4,0)]/\p=z) l Z (λ_=>rfl) (λ_=>rfl) Z Zd ?_ (λs B I p a' _ r h1 h2=>?_) ⟨Z,Z⟩ (λs j' g' K B o a' p I h' L r Ma P D=>?_) λB I a3 w3 r e' f'=>?_
   .exact⟨⟨⟨⟨mX,by omega⟩,⟨E,by simp,by simpa using F⟩⟩,by omega⟩,⟨hg,by simp,by simpa[yZ] using v j Za⟩⟩
   .obtain⟨e,rfl⟩:=r;cases Zk e;exact l.bare h1 h2
   .obtain⟨e,rfl⟩:=r;cases Zk e
    cases s with
    | succ s=>simp at K
    | zero =>
     obtain⟨rfl,rfl⟩:=ax (Ze K);cases Ze L;refine wQ L Z (by show aV≠.early;decide) Zd (λd=>JY C Z (P _ (.g ((Fa v).map .v)) Z) (P _ (.g ((Fa v).map .v)) Z) (XG C (yM k)))<|D [] p (J (.c (.v (Bo false)))) ⟨by simp,Z⟩ (.inr Z) λsv h=>by cases Ze h;trivial
   .obtain⟨e,rfl⟩:=r;cases Zk e;have M3:=l.re e' f';refine ia 1 2 [] M3 Z Z mX λa4 w4 R=>nR R Z Z<|ia 200 2 [[Sc (J (O g 0 Q)) n q]] R Z Z ⟨⟨mX,by omega⟩,⟨E,by simp,by simpa using F⟩⟩ λa5 w5 S=>?_;rw[y]at S;exact ih (j+1) a5 w5 Za (fx.alike (ρ:=[(bb,0),(b4,0)]) [] S 2 Z Z Z) x
theorem WT(s:c<4)(v:m<=8000000000000)(h:gl<w.heap.size)(x:∀i,i<m->∃a n q k,w.cell? (O gl (i*2) Q)=J (.slice a n q)/\w.cell? (O gl (i*2+1) Q)=J (vi (k:Nat))/\n<=8000000000000/\(0<n->∃g,a=J (O g 0 Q)/\g<w.heap.size/\∀j,j<n->w.rangeAt g (j*yZ c) (yV c (yM k)))):∀(f i:Nat) (b:cZ) (p:Wd),i+f=m->fx sft [] 1 w [(bb,0)] (En c gl m cp) 195 (Nz c i m) b p ->
  (∀b p,fx sft [] 1 w [(bb,0)] [] 195 [(0,.c (.p 0 0))] b p->iv V main true sft Stop (G ((base 10).at b [.code (zV c)]) (fr::cs)) p)->iv V main true sft Stop (G ((base 10).at b (Lz c)) (fr::cs)) p:=by
 intro f
 induction f with
 | zero =>
  intro i b p y M l;obtain rfl:i=m:=by omega
  cases c,(Za:c<4) using eL
  all_goals
   refine nR M Z Zc<|ia 1 1 [] M Z Z mX λd e o=>l d e (fx.alike (ρ:=[(bb,0)]) [] o 1 Z Z Z)
 | succ f z =>
  intro i b p y M l;let⟨a,n,q,k,r,B,C,D⟩:=x i Za;have E:=λb4 d e=>Uz (main:=main) (Stop:=Stop) (fr:=fr) (cs:=cs) (sft:=sft) (bb:=bb) (b4:=b4) (cp:=cp) s v (show i<m by omega) C h r D n 0 d e Za;cases c,(Za:c<4) using eL
  all_goals
   refine nV M Z (decide_eq_true Za)<|sw 200 1 [[vi k],[.slice a n q]] M Z Z ⟨⟨⟨⟨mX,by omega⟩,⟨h,by simp,by simpa using B⟩⟩,by omega⟩,⟨h,by simp,by simpa using r⟩⟩ λd e b4 o=>E b4 d e (fx.alike (ρ:=[(bb,0),(b4,0)]) [] o 2 Z Z Z) λF H I=>z (i+1) F H Za I l
theorem Ea(b:c<4)(B:pG sft u w bb t N X A)(z:N c<=8000000000000){d:cZ}(M:fx sft [] 1 w [(bb,0)] [] 195 [(0,.c (.p 0 0))] d p)(x:∀d p,fx sft [] 1 w [(bb,0)] [] 195 [(0,.c (.p 0 0))] d p->iv V main true sft Stop (G ((base 10).at d [.code (zV c)]) (fr::cs)) p):iv V main true sft Stop (G ((base 10).at d [.code (Fz c),.code (zV c)]) (fr::cs)) p:=by
 have f:p.cell? (O bb c Q)=J (t c):=(Zf (w:=w) (a:=(O bb c Q)) (M.old _ B.bl.1.lt Zc)).trans (B.xO c b);rcases(B.own c b).2 with⟨e,e0⟩|⟨gl,cp,b',e,_,C,c',d',e',ht⟩
 .rw[e]at f;have r:=M.xu (m':=[(0,c,.v (Sc Q 0 0))]) λe s=>.inr (by cases Zi s;exact⟨cJ,mX,by simpa[nJ,nI.den] using f⟩);cases c,(Za:c<4) using eL
  all_goals
   refine ia 200 1 [] r Z Z mX λh l o=>nR o Z Zc<|ia 1 1 [] o Z Z mX λD E F=>x D E (fx.alike (ρ:=[(bb,0)]) [] F 1 Z Z Z)
 .rw[e]at f;have H:=(Zj C).1;have r:=M.xu (m':=En c gl (N c) cp) λe s=>.inr (by cases Zi s;exact⟨cJ,mX,by simpa[nJ,nI.den] using f⟩);have v:=B.own c b;rw[e]at v
  have I:=λh l=>WT (main:=main) (Stop:=Stop) (fr:=fr) (cs:=cs) (sft:=sft) (w:=w) (bb:=bb) (cp:=cp) (gl:=gl) b z H (λi K=>by
   let⟨a,n,q,k,P,R,S,_,T⟩:=B.oG c i b K;refine⟨a,n,q,k,by rw[v.cellAt (i*2) Za];exact P,by rw[v.cellAt (i*2+1) Za];exact R,S,λW=>?_⟩;let⟨g,L,x1,y,x3⟩:=T W
   exact⟨g,x1,(B.blk g _ y).2.lt,λj hj=>B.Az g c k L y j Za⟩) (N c) 0 h l Za
  cases c,(Za:c<4) using eL
  all_goals
   refine ia 200 1 [] r Z Z mX λh l o=>I h l (fx.alike (ρ:=[(bb,0)]) [] o 1 Z Z Z) x
theorem PS(B:pG sft u w bb t N X A)(z:Fit sft w)(C:∀k,w.heap.size<=k->sft k=0)(f:∀c,c<4->N c<=8000000000000):oL main sft 10 #[Po (J (O bb 0 Q))] w λx p=>x=Bo true/\nC sft [] w p:=by
 refine y7 (sz:=195) (ρ:=[(bb,0)]) (ro:=1) (W:=[]) (m:=[]) [.c (.p 0 0)] ⟨λe D=>(by cases D),λi v=>?_,λi j v H I=>?_,λi K L=>?_,z,C⟩ (λs E=>?_) gZ Z Z Z λStop fr cs P M F=>?_
 .obtain rfl:i=0:=Zm v;exact B.bl.1
 .grind
 .grind
 .cases Zi E;exact cJ
 refine ia 5 1 [] M Z Z mX λh l b=>Ea (c:=0) Za B (f 0 Za) (fx.alike (ρ:=[(bb,0)]) [] b 1 Z Z Z) λo r d=>ia 1 1 [] d Z Z mX λh l b=>Ea (c:=1) Za B (f 1 Za) b λo r d=>ia 1 1 [] d Z Z mX λh l b=>Ea (c:=2) Za B (f 2 Za) b λo r d=>ia 1 1 [] d Z Z mX λh l b=>Ea (c:=3) Za B (f 3 Za) b λo r d=>ia 200 1 [] d Z Z mX λR S y=>A9 y gZ Z Z Z<|F _ _ ⟨Z,y.hJ⟩
end
def AM:Nat->Nat
 | 0=>82|1=>83|2=>84|_=>54
def CF:Nat->Func
 | 0=>Tryz.f82|1=>Tryz.f83|2=>Tryz.f84|_=>Tryz.f54
theorem xp{c:Nat}(b:c<4):V.funcs[AM c]?=J (CF c):=by
 cases c,(Za:c<4) using eL
 .exact Tryz.func82
 .exact Tryz.func83
 .exact Tryz.func84
 .exact Tryz.func54
def smK(c:Nat):List bh:=match (CF c).body with
 | some (.seq _ (.seq _ (.seq (.seq _ (.block b (.loop (.seq (.seq x y) z)))) r)))=>[.code y,.code z,.inLoop (.seq (.seq x y) z),.inBlock b,.code r]
 | _=>[]
def Q1(c:Nat):List bh:=match (CF c).body with
 | some (.seq _ (.seq _ (.seq _ r)))=>[.code r]
 | _=>[]
variable{ca cb:Nat}{b a:Option cx}{F:Nat->Vu}
def wa(w:Wd)(c n:Nat)(b a:Option cx)(F:Nat->Vu):Prop:=0<n->∃g h,b=J (O g 0 Q)/\a=J (O h 0 Q)/\g<w.heap.size/\h<w.heap.size/\∀j,j<n->BD c (cut F (j*yZ c) (yZ c))/\w.rangeAt g (j*yZ c) (cut F (j*yZ c) (yZ c))/\w.rangeAt h (j*yZ c) (cut F (j*yZ c) (yZ c))
abbrev De{w:Wd}{g:Nat}{l:List Vu}(h:w.rangeAt g d l):List dM:=l
theorem SI(P:c<4)(B:n<=8000000000000)(R:wa w c n b a F):∀(f i:Nat) (j:cZ) (p:Wd),i+f=n->fx sft [] 0 w [] [] 26 [(0,.c (.v (.slice b n ca))),(1,.c (.v (.slice a n cb))),(5,.c (ci i)),(14,.c (.v (Bo (decide ((i:Int)<n)))))] j p ->
  (∀j p,fx sft [] 0 w [] [] 26 [] j p->iv V main true sft Stop (G ((base (AM c)).at j (Q1 c)) (fr::cs)) p)->iv V main true sft Stop (G ((base (AM c)).at j (smK c)) (fr::cs)) p:=by
 intro f
 induction f with
 | zero =>
  intro i j p S M x;obtain rfl:i=n:=by omega
  cases c,(Za:c<4) using eL
  all_goals
   refine nR M Z Zc<|ia 1 0 [] M Z Z mX λC y l=>x C y (fx.alike (ρ:=[]) [] l 0 Z Z Z)
 | succ f T =>
  intro i j p S M x;have W:=C7 (n:=i) Za;obtain⟨g,h,rfl,rfl,X,hh,c'⟩:=R Za;let⟨r0,r,r2⟩:=c' i Za;cases c,(Za:c<4) using eL
  all_goals
   refine nV M Z (decide_eq_true Za)<|ia 200 0 [] M Z Z mX λC y l=>uU [(8,J (.c (.v (Bo false))))] [De r,De r] false (λs z d' p=>d'=[]/\p=y) l Z (λ_=>rfl) (λ_=>rfl) Z Zd ⟨⟨⟨⟨mX,by omega⟩,⟨X,by simp,by simpa[yZ] using r⟩⟩,by omega⟩,⟨hh,by simp,by simpa[yZ] using r2⟩⟩ (λs z D p a' _ v h1 h2=>?_) ⟨Z,Z⟩ (λs j' g' E z o a' p D h' H v Ma I B=>?_) λz D a3 w3 v e' f'=>?_
   .obtain⟨e,rfl⟩:=v;cases Zk e;exact l.bare h1 h2
   .obtain⟨e,rfl⟩:=v;cases Zk e
    cases s with
    | succ s=>simp at E
    | zero =>
     obtain⟨rfl,rfl⟩:=ax (Ze E);cases Ze H;refine wQ H Z (by show aV≠.early;decide) Zd (λd=>JY P Z (I _ (.g ((De r).map .v)) Z) (I _ (.g ((De r).map .v)) Z) r0)<|B [] p (J (.c (.v (Bo false)))) ⟨by simp,Z⟩ (.inr Z) λsv h=>by cases Ze h;trivial
   .obtain⟨e,rfl⟩:=v;cases Zk e;refine ia 1 0 [] (l.re e' f') Z Z mX λa4 w4 K=>nR K Z Z<|ia 200 0 [] K Z Z mX λa5 w5 L=>?_;rw[W]at L;exact T (i+1) a5 w5 Za (fx.alike (ρ:=[]) [] L 0 Z Z Z) x
theorem BM(d:c<4)(y:n<=8000000000000)(z:wa w c n b a F)(B:Fit sft w)(C:∀k,w.heap.size<=k->sft k=0):oL main sft (AM c) #[.slice b n ca,.slice a n cb] w λx p=>x=Bo true/\nC sft [] w p:=by
 refine y7 (f:=AM c) (sz:=26) (ρ:=[]) (ro:=0) (W:=[]) (m:=[]) [.c (.v (.slice b n ca)),.c (.v (.slice a n cb))] ⟨λe D=>(by cases D),λi f=>(by cases f),λi j f=>(by cases f),λi _ E=>(by cases E),B,C⟩ (λs o=>?_) (xp d) (c:=((CF c).body).getD .skip) ?_ ?_ Z λStop fr cs P M H=>?_
 .simp only[ae,aj,or_false]at o;rcases o with rfl|rfl<;>trivial
 .cases c,(Za:c<4) using eL
  all_goals rfl
 .cases c,(Za:c<4) using eL
  all_goals rfl
 have I:=λh l=>SI (sft:=sft) (main:=main) (Stop:=Stop) (fr:=fr) (cs:=cs) (ca:=ca) (cb:=cb) d y z n 0 h l Za;cases c,(Za:c<4) using eL
 all_goals
  refine ia 200 0 [] M Z Z mX λR S r=>nR r Z Zc<|ia 200 0 [] r Z Z mX λh l K=>I h l (fx.alike (ρ:=[]) [] K 0 Z Z Z) λT W L=>ia 200 0 [] L Z Z mX λG X v=>A9 v (xp d) Z Z Z<|H _ _ ⟨Z,v.hJ⟩
end
section
open Go.Conc
def ry{e:Type}(m:M e):Prop:=∀f h d a b c,m f h=.inl (.call d a b c)->0<=d/\d<100
variable{d j:Type}
theorem H6{x:d}:ry (M.pure x):=λf h g a b c e=>by cases e
theorem E6{m:M d}{f:d->M j}(k:ry m)(l:∀x,ry (f x)):ry (m.bind f):=λn h g a b c e=>by
 unfold M.bind at e;split at e
 .next x i=>exact k n h g a b c (i.trans (congrArg _ (Sum.inl.inj e)))
 .next x i=>exact l _ _ _ g a b c e
theorem vd(b:0<=e/\e<100):ry (E5 e f g h):=λc i k l m n a=>by
 unfold E5 at a
 grind
theorem J7{c:Prop}[Decidable c]{m n:M d}(a:ry m)(b:ry n):ry (if c then m else n):=by split<;>assumption
theorem BK(h:0<=e/\e<100)(g:Bool)(a b c:Int):∀l,ry (G9 e g a b c l)
 | []=>E6 (vd Zb) λ_=>H6
 | f::r=>E6 (vd h) λ_=>J7 (BK h g a b c r) (H6)
theorem HJ(a:aa):∀f i b,ry (tA a f i b)
 | 0,_,_=>E6 (vd Zb) λ_=>H6
 | f+1,i,b=>J7 (E6 (BK Zb _ _ _ _ _) λ_=>J7 (HJ a f _ _) (H6)) (HJ a f _ _)
theorem FW(a:Int)(g:Nat->Int):∀f i b c,ry (uE a g f i b c)
 | 0,_,_,_=>H6
 | f+1,i,b,c=>J7 (FW a g f _ _ _) (E6 (BK Zb _ _ _ _ _) λ_=>J7 (FW a g f _ _ _) (H6))
theorem IC(a:Int)(g:Nat->Int):∀f i b,ry (uP a g f i b)
 | 0,_,_=>H6
 | f+1,i,b=>J7 (IC a g f _ _) (E6 (vd Zb) λ_=>J7 (IC a g f _ _) (H6))
theorem EW(h:0<=e/\e<100)(a:Int):∀l,ry (rm e a l)
 | []=>H6
 | p::ps=>E6 (vd h) λ_=>EW h a ps
theorem GZ(a b:List Int):ry (J5 e a b):=E6 (EW Zb _ _) λ_=>E6 (EW Zb _ _) λ_=>vd Zb
theorem Nn(a b:List Int):ry (tH e a b f):=J7 (E6 (vd Zb) λ_=>J7 (H6) (E6 (GZ _ _) λ_=>H6)) (E6 (GZ _ _) λ_=>H6)
theorem KM(a:aa)(p:Int):∀f i,ry (uA a p f i)
 | 0,_=>E6 (vd Zb) λ_=>H6
 | f+1,i=>J7 (GZ _ _) (KM a p f _)
theorem OG(h:0<=e/\e<100)(a b c:Int):ry (J4 e a b c):=λi g k l m n f=>by
 unfold J4 at f;split at f
 .cases f
 .induction g with
  | nil=>obtain⟨rfl,_⟩:=Node.call.inj (Sum.inl.inj f);exact h
  | cons x r o =>
   unfold zi at f
   grind
theorem U4(b A c:Int):ry (qR B a b A c):=by
 unfold qR;refine J7 ?_ (J7 (KM _ _ _ _) (J7 (E6 (BK Zb _ _ _ _ _) λ_=>H6) (J7 (E6 (OG Zb _ _ _) λ_=>H6) (J7 (E6 (OG Zb _ _ _) λ_=>J7 (H6) (vd Zb)) (J7 (vd Zb) (E6 (BK Zb _ _ _ _ _) λ_=>H6))))));exact E6 (HJ _ _ _ _) λ_=>J7 (E6 (FW _ _ _ _ _ _) λ_=>J7 (E6 (IC _ _ _ _ _) λ_=>Nn _ _) (Nn _ _)) (H6)
def tS{d:Type}(m:M d):Prop:=∃e a b c,m false []=.inl (.call e a b c)
theorem xe{d j:Type}{m:M d}{f:d->M j}(h:tS m):tS (m.bind f):=by
 let⟨n,a,b,c,h⟩:=h;exact⟨n,a,b,c,by unfold M.bind;rw[h]⟩
theorem Ae:tS (E5 e f g h):=⟨_,_,_,_,Z⟩
theorem wR{d:Type}{c:Prop}[Decidable c]{m n:M d}(a:tS m)(b:tS n):tS (if c then m else n):=by split<;>assumption
theorem EO{g:Bool}(a b c:Int):∀l,tS (G9 e g a b c l)
 | []=>xe (Ae)
 | f::r=>xe (Ae)
theorem NY(a:aa):∀f i b,tS (tA a f i b)
 | 0,_,_=>xe (Ae)
 | f+1,i,b=>wR (xe (EO _ _ _ _)) (NY a f _ _)
theorem VE:∀a b,tS (J5 e a b)
 | [],[]=>⟨_,_,_,_,Z⟩
 | [],y::_=>⟨_,_,_,_,Z⟩
 | x::_,_=>⟨_,_,_,_,Z⟩
theorem PA(a:aa)(p:Int):∀f i,tS (uA a p f i)
 | 0,_=>xe (Ae)
 | f+1,i=>wR (VE _ _) (PA a p f _)
theorem Uc(a:aa)(p:Nat)(b A B:Int):tS (qR a p b A B):=by
 unfold qR;refine wR (xe (NY _ _ _ _)) (wR (PA _ _ _ _) (wR (xe (EO _ _ _ _)) (wR ⟨_,_,_,_,Z⟩ (wR ⟨_,_,_,_,Z⟩ (wR (Ae) (xe (EO _ _ _ _)))))))
variable{g K:aa}{p:Nat}{i A B:Int}{f:List (Int×Int)}{d a b c:Int}{C:Ctx}
theorem VT(h:yt g p i A B f=.call d a b c):qR g p i A B false f=.inl (.call d a b c):=by
 unfold yt M.then at h
 grind
theorem Vp{s:j6}(h:xT s f){x e:Int}(t:∀d a b c,s f=.call d a b c->vZ d x e):xT s (f++[(x,e)]):=λl m n o k d a b c q=>by
 rcases List.eq_nil_or_concat o with rfl|⟨h2',y,rfl⟩
 .simp_all
 .rw[List.concat_eq_append,←cj,←jr]at k;let⟨r,_⟩:=List.append_inj' k Z;exact h l m n h2' r d a b c q
theorem Qy(E:1<=C.kd/\C.kd<=7)(s:xT (m7 C p g) f)(t:pz f)(F:m7 C p g f=.call d a b c):qR g p C.kd C.A C.B false f=.inl (.call d a b c)/\(0<=d/\d<100)/\xT (m7 C p g) (f++[((i5 K p d a b c).n,(i5 K p d a b c).e)]) /\
  ((∃l m n o,m7 C p g (f++[((i5 K p d a b c).n,(i5 K p d a b c).e)])=.call l m n o/\pz (f++[((i5 K p d a b c).n,(i5 K p d a b c).e)])/\rH g p C.kd C.A C.B (f++[((i5 K p d a b c).n,(i5 K p d a b c).e)]) (i5 K p d a b c).e=Q) \/
   ∃v e,m7 C p g (f++[((i5 K p d a b c).n,(i5 K p d a b c).e)])=.done v e/\rH g p C.kd C.A C.B (f++[((i5 K p d a b c).n,(i5 K p d a b c).e)]) (i5 K p d a b c).e=J (v,e)):=by
 have S:pF (m7 C p g) (yt g p C.kd C.A C.B):=Ll g p C.kd C.A C.B E;have I:=SQ K p d a b c;have H:=S f s t;have u:=VT (H.1.symm.trans F);have w:=Vp s (x:=(i5 K p d a b c).n) (e:=(i5 K p d a b c).e) λl m n o h=>by
  grind
 refine⟨u,U4 _ _ _ _ _ _ _ _ _ u,w,?_⟩;generalize i5 K p d a b c=k at *
 by_cases r:k.e=3
 .refine .inr ⟨0,3,?_,by unfold rH;rw[mZ r]⟩
  grind
 .have y:pz (f++[(k.n,k.e)]):=λx q=>by
   rcases bZ.1 q with q|q
   .exact t x q
   grind
  have z:=(S _ w y).1
  cases D:m7 C p g (f++[(k.n,k.e)]) with
  | call l m n o=>exact .inl ⟨l,m,n,o,Z,y,by unfold rH;rw[mY r,←z,D]⟩
  | done v e=>exact .inr ⟨v,e,Z,by unfold rH;rw[mY r,←z,D]⟩
theorem Ry(k:1<=C.kd/\C.kd<=7):∃d a b c,m7 C p g []=.call d a b c:=by
 let⟨n,a,b,c,h⟩:=Uc g p C.kd C.A C.B;refine⟨n,a,b,c,((Ll g p C.kd C.A C.B k) [] (λm x e o h=>by simp at h) λx l=>by cases l).1.trans ?_⟩;unfold M.then;rw[h]
end
section
open Go.Conc
def Hw(P:Pg)(d:Vu->Wd->Prop)(m:gW)(T:lT):Prop :=
 ∃N b o a c,runNT P (N+1) m T=(.ended o a,c)/\runN P N m=.next b/\step P b=.ended o a/\jQ P (λv a=>d v a/\ta m.world a) b o a c
variable{P:Pg}{Post:Vu->Wd->Prop}{l:List ng}{b:Nat->Option eZ}{n:Nat}{w:Wd}
theorem VO{a:Gr}{v:Vu}(e:a.status=.running)(f:∀d,bF P true a (w.at d)=.ended (.done v) (w.at d) #[])(g:∀d,Post v (w.at d))(j:∀i,i≠0->b i=Q):X P (Hw P Post) l b n 0 a w:=by
 rintro m T ⟨gs,k,q,Mem,rfl,hn,hg,hM,hdis,C⟩;obtain⟨L,p⟩:=ring_end C hM j
 obtain⟨N,r,o,c,s,t,u,x,y⟩:=beside_ends (P:=P) (Post:=λv c=>Post v c/\ta w c) (D:=λ_ _ _=>False) (sl:=k) (n:=0) (λ_ _ _ h=>h.elim) hg L p (λA z=>by
  obtain⟨d,rfl⟩:=z
  exact⟨e,v,#[],f d,by simp,g d,Z,Z,Z⟩)
 exact⟨0,_,_,Z,⟨N,r,o,c,s,t,u,x,y⟩,Z,Z,Z⟩
theorem Tp{g:Gr}(h:X P (Hw P Post) [] (λ_=>Q) 1 0 g j) :
  ∃N d o a e,runNT P (N+1) (solo g j) #[]=(.ended o a,e)/\runN P N (solo g j)=.next d/\step P d=.ended o a/\jQ P (λv a=>Post v a/\ta j a) d o a e:=by
 let⟨N,A,B,k,⟨M,d,o,a,e,p,q,r,t⟩,u⟩:=h (solo g j) #[] ⟨#[g],Q,λ_=>0,λi=>i=0,solo_eq_crowd _ _,Z,Z,Z,λi s c y=>(by cases y),
  ring_begin (λx z=>by
   rcases z with⟨o,f,_⟩|⟨_,_,h,_⟩
   .cases f
   .exact h.elim) (leavers_one _ _) (past_nil.mono (aW _)) λo f=>by cases f⟩
 refine⟨N+M,d,o,a,e,?_,?_,r,t.mono λv m=>⟨m.1,ta.trans u m.2⟩⟩
 .rw[aP,runNT_add,k];exact p
 .rw[runN_add,←runNT_fst P _ _ #[],k];exact q
end
section
open Go.Conc
attribute [local go_sem ↓] Go.wp_at_zero Go.wp_at_succ
theorem c9W:(V.info? 92).map (λi=>(i.zero.isSome,i.size,i.bytes))=J (true,5,40):=by kernel_rfl
theorem Vj(n:Nat)(f:n<=4398046511104)(w:Wd):∃C:Array Vu,C.size=n*5/\(ic 88 (Y U n) (Y U n)).run V w=.ok (Sc (J (O w.heap.size 0 Q)) n n) (w.alloc (.cells C 92)):=by
 have a:=c9W
 cases b:V.info? 92 with
 | none=>rw[b]at a;cases a
 | some i =>
  rw[b]at a;simp only[aD,bm,cR]at a;let⟨c,d,e⟩:=a;let⟨z,c⟩:=cH.1 c;have:=run_make (P:=V) w 88 92 i z iU b c .i64 .i64 n n Za Za (by rw[e];omega) Za;rw[d]at this;exact⟨_,size_madeCells _ _,this⟩
theorem SG{P:Pg}(d q e:Ti)(b g n m r:Nat)(a:List Vu)(s:P.underlying d=J (.slice e))(k:(P.info? e).map (·.size)=J m)(t:a.length=n*m)(u:∀c v,a[c]?=J v->j.cell? (((O g 0 Q):cx).add c)=J v)(l:j.there b 0 a.length)(w:∀v∈a,v.oneCell'=true) :
  (dp #[d,d] q #[Sc (J (O b 0 Q)) n n,Sc (J (O g 0 Q)) n r]).run P j=.ok (goInt n) (j.setCells b 0 a):=by
 have o:=run_loadCells_list (P:=P) j (O g 0 Q) a u;have p:=jL (P:=P) b 0 a 0 j (λc f=>by simpa using(l c f).1) (λc f=>by simpa using(l c f).2) w
 cases h:P.info? e with
 | none=>simp[h]at k
 | some i =>
  have x:i.size=m:=by simpa[h] using k
  rw[t]at o;simp only[jZ]at p;simp[dp,gQ s,mO,kH,sizeOf,typeInfo,h,x,o,p]
structure tJ (v v':Wd) (N:Nat) (Xs:List Vu):Prop where
 oC:bE v.heap.size v v'
 size:v'.heap.size=v.heap.size+1
 row:v'.rowIs v.heap.size 92 (N*5) (λj=>Xs.getD j (Bo false))
theorem QX(v:Wd)(b q d n A p N:Nat)(h:Vu)(f:List Vu)(B:v.cell? (O b 1 Q)=J (Sc (J (O q 0 Q)) n n))(r:v.cell? (O b 2 Q)=J (Sc (J (O d 0 Q)) n n))(D:p<n)(s:v.cell? (O d p Q)=J h)(own:v.ownsRow A 92 5 h N f)(E:N<=4398046511104)(t:∀x∈f,x.oneCell'=true) :
  aF V 52 #[Po (J (O b 0 Q)),Y U p] v λe F=>e=.returned (.tuple #[Sc (J (O v.heap.size 0 Q)) N N,Y U 0])/\tJ v F N f:=by
 have i0:(0:Int)<=(p:Int):=by omega
 have i1:(p:Int)<(n:Int):=by omega
 have H:(decide (0<=(p:Int))&&decide ((p:Int)<n))=true:=by simp[D]
 let⟨C,u,a'⟩:=Vj N E v;have i:=K7 v C 92;rw[u]at i;have I:b<v.heap.size:=Bb r;have K:d<v.heap.size:=Bb s;have a2:(v.alloc (.cells C 92)).cell? (O b 2 Q)=J (Sc (J (O d 0 Q)) n n):=by rw[Zf (w:=v) (a:=(O b 2 Q)) (aJ _ _ _ I)];exact r
 have a3:(v.alloc (.cells C 92)).cell? (O d p Q)=J h:=by rw[Zf (w:=v) (a:=(O d p Q)) (aJ _ _ _ K)];exact s
 have L:∃W,(∀k,(dp #[88,88] k #[Sc (J (O v.heap.size 0 Q)) N N,h]).run V (v.alloc (.cells C 92))=.ok (goInt N) W)/\tJ v W N f:=by
  obtain⟨l,⟨rfl,rfl⟩|⟨g,c,P,rfl,a1,w,a5,a6,a7,R⟩⟩:=own
  .refine⟨_,λk=>run_copy_nil _ _ _ _ _ _ _ _ _ iU Zd,(bz _ _).alloc (af _) _,by simp,i.congr λj m=>by omega⟩
  .have S:g<v.heap.size:=(Zj w).1;refine⟨_,λk=>SG _ _ 92 _ _ N 5 c f iU Zd l (λj x o=>?_) (by rw[l];exact D5 i Za) t,p9 (af _) _ _ ((bz _ _).alloc (af _) _),by rw[l8];simp,(C4 _ 0 i).congr λj m=>?_⟩
   .rw[eG,aE,Zf (w:=v) (a:=(O g j Q)) (aJ _ _ _ S)];simp only[aC,w];have m:j<N*5:=by have:=(bD.1 o).1;omega
    rw[←R,kD m]at o;simpa using o
   .rw[mZ Za,kY]
 let⟨W,y,z⟩:=L;have T:ar (∀k,_):=y;have G:ar (tJ v W N f):=z;have M:∃c a,h=.slice a N c:=by
  obtain⟨l,⟨rfl,rfl⟩|⟨g,c,P,rfl,_⟩⟩:=own
  .exact⟨0,Q,Z⟩
  .exact⟨c,J (O g 0 Q),Z⟩
 obtain⟨c,a,rfl⟩:=M;clear own i u t z y
 go_enter gX,Tryz.ntmps52
 go_wp2_with fail
 refine(JN v b q n p B).mono ?_;rintro e X ⟨rfl,rfl⟩;rw[H]
 go_wp2_with (refine El Z _ _ 88 Z (Sc (J (O X.heap.size 0 Q)) N N) (.slice a N c) (goInt N) Z Z (T.out _) ?_)
 go_ret2
 exact⟨Z,G.out⟩
end
section
open Go.Conc
variable{m:Kb}{l:List ng}{K:aa}{L:Nat->Option Lv}{r:Nat}{z:Nat->Option eZ}{u:Nat}{w w':Wd}{b:Lb}{n B:Nat}{E:Nat->Option ng}{D:Nat->Vu}{N:Nat->Nat}{y:Nat->List Vu}
theorem OR(p:Fit (ep l) w)(A:KO l w)(q:Bool){f:bC}(C:Sg f=true){R R':Vu->Wd->Prop}(F:∀v,Lk (ep l) v (w.at a)->aF V f s v λe c=>∃x,e=.returned x/\bE v.heap.size v c/\R x c)(H:∀x c w',c.heap.size=w'.heap.size->(∀k,w.heap.size<=k->w'.heap[k]?=c.heap[k]?)->R x c->R' x w')(i:Fm')(j:List Fm') :
  l6 V q (DL true (ep l)) (λg w'=>∃x,g=G (i.finish x) j/\Grown w w'/\R' x w') (G (ay V f s .normal) (i::j)) (w.at a):=by
 refine(xU xn (sft:=ep l) (w0:=w.at a) C ⟨p.soft,p.clear⟩ q (Q:=λx c=>∃v,Lk (ep l) v (w.at a)/\bE v.heap.size v c/\R x c) (λv d=>(F v d).mono λe c T=>by
   grind) i j).keep.mono (λ_ _ _ h=>h) ?_
 rintro g w' ⟨⟨x,c,rfl,hl',v,d,hb,hr⟩,hkp⟩;have W:v.heap.size=w.heap.size:=d.size;have I:c.heap.size=w'.heap.size:=hl'.size;refine⟨x,Z,⟨by have:=hb.size;omega,λk t=>C5 (w:=w.at a) hkp d hl' (hb.block k Za),hl'.fit.clear⟩,H x c w' I (λk t=>?_) hr⟩;have P:ep l k=0:=U7 λo S=>by have:=KO.lt A S;omega
 rw[hl'.heap,P]
 cases e:w'.heap[k]? with
 | none=>rfl
 | some o=>rw[aD,xC (hkp.new k o t e)]
theorem c5W{w w':Wd}{b n:Nat}(h:w.rowIs b a n o)(e:w'.heap[b]?=w.heap[b]?):w'.rowIs b a n o:=h.of_block e
theorem c1m(s:Co m l K L r z u w)(c:oQ m l L w b n B E D N y)(f:a<n)(A:N a<=4398046511104)(k:∀x∈y a,x.oneCell'=true)(o:Fm')(p:List Fm')(d:Nat) :
  l6 V true (DL true (ep l)) (λg w'=>∃x,g=G (o.finish x) p/\Grown w w'/\x=.tuple #[Sc (J (O w.heap.size 0 Q)) (N a) (N a),Y U 0]/\w'.rowIs w.heap.size 92 (N a*5) λj=>(y a).getD j (Bo false))
   (G (ay V 52 #[Po (J (O b.bl 0 Q)),Y U a] .normal) (o::p)) (w.at d):=by
 refine OR s.env.fit s.env.ko true Zd (R:=λx q=>x=.tuple #[Sc (J (O w.heap.size 0 Q)) (N a) (N a),Y U 0]/\q.rowIs w.heap.size 92 (N a*5) λj=>(y a).getD j (Bo false)) (λv i=>?_) (λx q w' F C h=>⟨h.1,c5W h.2 (C _ (af _))⟩) o p;have sv:v.heap.size=w.heap.size:=i.size;refine(QX v b.bl b.bu b.bn n B a (N a) (D a) (y a) (by rw[i.cell];exact c.is.k1) (by rw[i.cell];exact c.is.k2) f (by rw[i.cell];exact c.is.d.cell f) (j5 (c.is.own a f) λx k=>vI (w:=w.at d) i (c.qJ a f x k).sf (.inl (FO (c.is.own a f) k))) A k).mono ?_;rintro e q ⟨rfl,h⟩;have t:=h.row;rw[sv]at t;exact⟨_,Z,h.oC,by rw[sv],t⟩
theorem SH(j:Co m l K L r z u w)(A:Fm')(C:List Fm')(d:Nat) :
  l6 V true (DL true (ep l)) (λg w'=>∃x,g=G (A.finish x) C/\Grown w w'/\∃b:Lb,x=Po (J (O b.bl 0 Q))/\(w.heap.size<=b.bu/\w.heap.size<=b.bn)/\oD m l L w' b K.nS (b.bl+1) (λ_=>Q) (λ_=>Sc Q 0 0) (λ_=>0) λ_=>[])
   (G (ay V 14 #[Po (J (O m.bk 0 Q))] .normal) (A::C)) (w.at d):=by
 let⟨T,W,M⟩:=j.env.zero;have X:K.nS<=6:=j.env.rep.hS;refine(OR (R':=λx i=>∃f a c,x=Po (J (O f 0 Q))/\w.heap.size<=a/\w.heap.size<=c/\a<f/\c<f/\a≠c/\i.heap[f]?=J (.cells (vl m.bk K.nS a c) 114 (0,0))/\px i a K.nS (λ_=>Po Q)/\px i c K.nS λ_=>Sc Q 0 0) j.env.fit j.env.ko true Zd (R:=λx i=>∃f a c,x=Po (J (O f 0 Q))/\w.heap.size<=a/\w.heap.size<=c/\a<f/\c<f/\a≠c/\i.heap[f]?=J (.cells (vl m.bk K.nS a c) 114 (0,0))/\px i a K.nS (λ_=>Po Q)/\px i c K.nS λ_=>Sc Q 0 0) (λv H=>?_) (λx i w' hs I h=>?_) A C).mono (λ_ _ _ h=>h) ?_
 .have sv:v.heap.size=w.heap.size:=H.size;refine(c4U (Ca (w:=w.at d) H T W M (j.env.rep.same (af _) λ_ _ _=>rfl))).mono ?_;rintro e i ⟨f,rfl,a,c,h⟩;exact⟨_,Z,h.oC,f,a,c,Z,by rw[←sv];exact h.gu,by rw[←sv];exact h.gn,h.lu,h.ln,h.un,h.l,h.u,h.d⟩
 .let⟨f,a,c,e,gu,gn,P,R,F,k,s,t⟩:=h;exact⟨f,a,c,e,gu,gn,P,R,F,by grind,s.of (I _ gu),t.of (I _ gn)⟩
 .rintro g w' ⟨x,rfl,hG,f,a,c,rfl,gu,gn,P,R,F,k,s,t⟩;have a':f<w'.heap.size:=(Zj k).1;have m1:=j.new (w':=w') (k:=f) Za a';have m2:=j.new (w':=w') (k:=a) gu s.lt;have m3:=j.new (w':=w') (k:=c) gn t.lt;refine⟨_,Z,hG,⟨f,a,c⟩,Z,⟨gu,gn⟩,⟨⟨by simp[aC,k,vl],by simp[aC,k,vl],by simp[aC,k,vl],s,t,λp S=>⟨Z,.inl ⟨Z,Z⟩⟩,λp q _ _ _=>.inl Z,⟨?_,?_,F,?_,?_,?_⟩,X⟩,m1,m2,m3,λp S g hg=>(by cases hg),af _⟩,λp S o ho=>(by cases ho)⟩<;>simp only<;>omega
theorem YT(a:Co m l K L r z u w){o:aa}(p:vL m l o w')(F:o.nS=K.nS)(f:Alike (kc m) w w'):Co m l o L r z u w'/\Kp m L w L w':=by
 have q:∀k,k<w.heap.size->k≠m.bf->k≠m.bs->k≠m.bd->w'.heap[k]?=w.heap[k]?:=f.block
 refine⟨⟨p,a.top,a.gid,a.rq,λg v e=>?_,λg v e=>by rw[F];exact a.wait g v e,a.qj,a.none,λs c H I=>Zg (a.pE s c H I) f.size,λg v e c j=>?_,a.ql,a.pk,a.apart,λg s P=>by
  let⟨R,S,T,t⟩:=a.rV g s P
  exact⟨R,S,T,λc j=>⟨Zg (t c j).1 f.size,(t c j).2⟩⟩,Zh a.rK.1 f.size,a.rK.2⟩,λk d=>⟨⟨Zg d.lt f.size,d.nf,d.ns,d.nd,d.own⟩,q k d.lt d.nf d.ns d.nd⟩⟩
 .let⟨W,G,A⟩:=a.at_ g v e;have x:=a.rq g v e;refine⟨W,G,A.other (x.env p) λi C=>?_⟩;let⟨_,M,X,a3,_⟩:=A.own.ap i C;let⟨k1,k2,k3,k4⟩:=x;exact q i (A.lt C) (by grind) (by grind) (by grind)
 .let⟨⟨b',k,h⟩,a0,M,X,a3,a4,a5⟩:=a.chan g v e c j
  grind
theorem oD.same(h:oD m l L w b n B E D N y)(a:Kp m L w L w'):oD m l L w' b n B E D N y:=⟨h.m.turn a,h.live⟩
theorem b7U(s:Co m l K L r z u w)(f i a c e:Int)(o:Fm')(p:List Fm')(d:Nat) :
  l6 V true (DL true (ep l)) (λg w'=>g=G (o.finish (.tuple #[Y U (i5 K f i a c e).n,Y U (i5 K f i a c e).e])) p/\Co m l (i5 K f i a c e).K L r z u w'/\Kp m L w L w')
   (G (ay V 16 #[Po (J (O m.bk 0 Q)),Y U f,Y U i,.agg #[Y U a,Y U c,Y U e]] .normal) (o::p)) (w.at d):=by
 have q:=s.at d;refine(b7T (C:=kc m) q.env s.top true f i a c e o p).mono (λ_ _ _ h=>h) ?_;rintro g w' ⟨rfl,hE,hA⟩;have R:=q.env.rep;have t:=(F6 R hE.rep (hA.block _ R.lk R.kf R.ks R.kd)).2.1;let⟨v,x⟩:=YT q hE t hA;exact⟨Z,v,λk j=>x k ⟨j.lt,j.nf,j.ns,j.nd,j.own⟩⟩
theorem b5G(j:Co m l K L r z u w)(f:Fm')(i:List Fm')(d:Nat) :
  l6 V true (DL true (ep l)) (λg w'=>∃a c e,g=G (f.finish (rN K a c e)) i/\Grown w w'/\qa w' a c e K/\w.heap.size<=a/\w.heap.size<=c/\w.heap.size<=e)
   (G (ay V 33 #[Po (J (O m.bk 0 Q))] .normal) (f::i)) (w.at d):=by
 refine(Na (C:=kc m) (j.at d).env true f i).mono (λ_ _ _ h=>h) ?_;rintro g w' ⟨a,c,e,rfl,h1,h2,h3,h4,h5,h6,h7⟩;exact⟨a,c,e,Z,⟨h1,h2,h3.clear⟩,h4,h5,h6,h7⟩
end
section
open Go.Conc
variable{sft sft' κ:Nat->Nat}{w:Wd}{i:Nat}{b:Rl}{bk n:Nat}{ts:Nat->Option py}{D:Nat->Vu}{N:Nat->Nat}{Xs:Nat->List Vu}
theorem Pq(h:oW i a):a≠0:=by unfold oW at h;omega
theorem oh.soft(h:oh sft κ i w b bk n ts D N Xs)(o:∀k,k<w.heap.size->oW i (κ k)->sft' k=0):oh sft' κ i w b bk n ts D N Xs:=by
 have I:=h.n6;have c:∀ {k j},k<w.heap.size->κ k=cB i j->j<100->sft' k=0:=λ{k j} q e r=>o k q (by rw[e];exact rD r);refine⟨h.k0,h.k1,h.k2,h.k3,h.u,h.d,h.t,λp s d e=>?_,h.own,λp g d a=>⟨(h.od p g d a).1,c (j8 (h.own p d) a).2 (h.od p g d a).1 Za⟩,⟨h.rl.1.soft (c h.rl.1.lt h.rl.2 Za),h.rl.2⟩,⟨h.rt.1.soft (c h.rt.1.lt h.rt.2 Za),h.rt.2⟩,⟨h.ru.1.soft (c h.ru.1.lt h.ru.2 Za),h.ru.2⟩,⟨h.rd.1.soft (c h.rd.1.lt h.rd.2 Za),h.rd.2⟩,h.n6⟩;have:=h.tk p s d e
 cases s with
 | fresh K A B=>exact this
 | begun T =>
  let⟨u,f,v,x,y,z,l,C,E,m⟩:=this;refine⟨u,f,v,x,y,λF H=>?_,l,C,E,λg a=>⟨(m g a).1,c (j8 l a).2 (m g a).1 Za⟩⟩;have t:=z F H;exact { t with sf:=by rw[f];exact c h.rt.1.lt h.rt.2 Za }
theorem pt.soft{B:RB}{r:Rk}(R:pt sft w B r)(c:∀k,B.is r k->sft' k=0):pt sft' w B r:=⟨R.mem,λk a=>⟨(R.row k a).1,c k a⟩⟩
theorem pG.soft{X:Nat->List Vu}{A:Nat->Option BkB}(B:pG sft κ w a o N X A)(d:∀g x,A g=J x->sft' g=0):pG sft' κ w a o N X A :=
 ⟨B.xO,B.own,B.hd,B.ls,λg x c=>⟨(B.blk g x c).1,(B.blk g x c).2.soft (d g x c)⟩,B.Az,B.oG⟩
structure Wp where
 kb:Kb
 B:RB
 bw:Nat
 wl:Nat
 cl:Nat
 wm:Nat
 cm:Nat
 bb:Nat
 lb:Nat->Lb
 B0:Nat->Nat
 rb:Nat->Rl
 n:Nat
structure Ws where
 U:Nat->Nat->Option ng
 V:Nat->Nat->Vu
 N:Nat->Nat->Nat
 Xs:Nat->Nat->List Vu
 ts:Nat->Nat->Option py
 D:Nat->Nat->Vu
 bV:Nat->Vu
 bN:Nat->Nat
 bX:Nat->List Vu
 bA:Nat->Option BkB
 rr:Rk
def Tie(v:Lv)(p:Nat):py->Prop
 | .fresh d A B=>v.C.kd=d/\v.C.A=A/\v.C.B=B/\v.S=m7 v.C p/\1<=d/\d<=7
 | .begun T=>v.C.kd=T.kd/\v.C.A=T.A/\v.C.B=T.B/\(v.S=λ_ e=>m7 v.C p T.K (T.Ls++e))/\(1<=T.kd/\T.kd<=7)/\xT (m7 v.C p T.K) T.Ls/\pz T.Ls/\(∃f a b c,m7 v.C p T.K T.Ls=.call f a b c)/\p<T.K.nS
def vz(c:Nat):Prop:=c≠0/\c<300
structure Pm (sft κ:Nat->Nat) (w:Wd) (P:Wp) (S:Ws) (K:aa):Prop where
 R:pt sft w P.B S.rr
 Rc:∀j,P.B.is S.rr j->κ j=1
 rX:wo K S.rr
 rl:∀i,i<2->oh sft κ i w (P.rb i) P.B.b P.n (S.ts i) (S.D i) (S.N i) (S.Xs i)
 bk:pG sft κ w P.bb S.bV S.bN S.bX S.bA
 w0:w.cell? (O P.bw 0 Q)=J (Po (J (O P.kb.bk 0 Q)))
 w1:w.cell? (O P.bw 1 Q)=J (Po (J (O P.B.b 0 Q)))
 w2:w.cell? (O P.bw 2 Q)=J (Sc (J (O P.wl 0 Q)) 2 P.cl)
 w3:w.cell? (O P.bw 3 Q)=J (Sc (J (O P.wm 0 Q)) 2 P.cm)
 w4:w.cell? (O P.bw 4 Q)=J (Po (J (O P.bb 0 Q)))
 l:∀i,i<2->w.cell? (O P.wl i Q)=J (Po (J (O ((P.lb i).bl) 0 Q)))/\w.cell? (O P.wm i Q)=J (Po (J (O ((P.rb i).bl) 0 Q)))
 rw:F7 sft w P.bw/\κ P.bw=3
 r4:F7 sft w P.wl/\κ P.wl=4
 r5:F7 sft w P.wm/\κ P.wm=5
variable{κ':Nat->Nat}{w':Wd}{P:Wp}{S:Ws}{K:aa}
theorem Pm.book{v:Nat->List Vu}{y:Nat->Option BkB}(h:Pm sft κ w P S K)(e:∀k,k<w.heap.size->vz (κ k)->κ k≠6->κ' k=κ k/\w'.heap[k]?=w.heap[k]?/\sft' k=0)(B:pG sft' κ' w' P.bb o x v y):Pm sft' κ' w' P { S with bV:=o,bN:=x,bX:=v,bA:=y } K:=by
 have up:∀ {k c},F7 sft w k/\κ k=c->vz c->c≠6->F7 sft' w' k/\κ' k=c:=λ{k c} q r s=>by
  let⟨C,E,F⟩:=e k q.1.lt (by rw[q.2];exact r) (by rw[q.2];exact s);exact⟨(q.1.soft F).of E,C.trans q.2⟩
 have f:∀ {k c t},F7 sft w k/\κ k=c->vz c->c≠6->w'.cell? (O k t Q)=w.cell? (O k t Q):=λ{k c t} q r s=>Zf (w:=w) (e k q.1.lt (by rw[q.2];exact r) (by rw[q.2];exact s)).2.1;have l:vz 3:=⟨by decide,by decide⟩;have z:vz 4:=⟨by decide,by decide⟩;have A:vz 5:=⟨by decide,by decide⟩;have H:vz 1:=⟨by decide,by decide⟩;have m:∀ {i k},i<2->oW i (κ k)->vz (κ k)/\κ k≠6:=λ{i k} a e=>by unfold oW at e;exact⟨⟨by omega,by omega⟩,by omega⟩
 have u:∀j,P.B.is S.rr j->κ' j=κ j/\w'.heap[j]?=w.heap[j]?/\sft' j=0:=λj d=>e j (h.R.lt d) (by rw[h.Rc j d];exact H) (by rw[h.Rc j d];decide);refine⟨((h.R.soft (sft':=sft') λj d=>(u j d).2.2).keep λj d=>(u j d).2.1),λj d=>(u j d).1.trans (h.Rc j d),h.rX,λi a=>?_,B,(f h.rw l Zb).trans h.w0,(f h.rw l Zb).trans h.w1,(f h.rw l Zb).trans h.w2,(f h.rw l Zb).trans h.w3,(f h.rw l Zb).trans h.w4,λi a=>⟨(f h.r4 z Zb).trans (h.l i a).1,(f h.r5 A Zb).trans (h.l i a).2⟩,up h.rw l Zb,up h.r4 z Zb,up h.r5 A Zb⟩;exact((h.rl i a).soft λk p g=>(e k p (m a g).1 (m a g).2).2.2).same λk p g=>⟨(e k p (m a g).1 (m a g).2).1,(e k p (m a g).1 (m a g).2).2.1⟩
theorem Pm.move(h:Pm sft κ w P S K)(d:∀k,k<w.heap.size->vz (κ k)->κ' k=κ k/\w'.heap[k]?=w.heap[k]?/\sft' k=0):Pm sft' κ' w' P S K:=by
 have c:∀g x,S.bA g=J x->κ' g=κ g/\w'.heap[g]?=w.heap[g]?/\sft' g=0:=λg x a=>d g (h.bk.blk g x a).2.lt (by rw[(h.bk.blk g x a).1];exact⟨by decide,by decide⟩);exact h.book (λk e f _=>d k e f) ((h.bk.soft λg x a=>(c g x a).2.2).same (λg x a=>(c g x a).1) λg x a=>(c g x a).2.1)
structure Pw (l:List ng) (L:Nat->Option Lv) (r:Nat) (Inb:Nat->Option eZ) (nG:Nat) (w:Wd) (κ:Nat->Nat) (P:Wp) (S:Ws) (K:aa) (t:Nat):Prop where
 co:Co P.kb l K L r Inb nG w
 nS:K.nS=P.n
 lm:∀i,i<2->oD P.kb l L w (P.lb i) P.n (P.B0 i) (S.U i) (S.V i) (S.N i) (S.Xs i)
 lc:∀i,i<2->κ (P.lb i).bl=300+100*i/\κ (P.lb i).bu=301+100*i/\κ (P.lb i).bn=302+100*i/\∀p g,p<P.n->(S.V i p).ownBlock=J g->κ g=310+100*i+p
 mw:∀k,κ k≠0->Mw P.kb l L w k
 pm:Pm (ep l) κ w P S K
 tie:∀i p,i<2->p<P.n->(S.U i p=Q/\S.ts i p=Q)\/∃v t,S.U i p=J v.C.o/\L v.C.o.gid=J v/\v.C.slot=p/\S.ts i p=J t/\Tie v p t
 one:∀i p j q o o',i<2->j<2->p<P.n->q<P.n->S.U i p=J o->S.U j q=J o'->o.gid=o'.gid->i=j/\p=q
 all:∀g v,L g=J v->∃i p,i<2/\p<P.n/\S.U i p=J v.C.o
 sz:2<=K.nF/\K.nF<=32/\K.nD<=4
 pos:0<nG
 tN:∀i p,i<2->p<P.n->S.N i p<=t
 tL:∀i p T,i<2->p<P.n->S.ts i p=J (.begun T)->T.Ls.length<=t
 tB:∀c,c<4->S.bN c<=4*t
 xi:∀i p x,i<2->p<P.n->x∈S.Xs i p->∃v,x=vi v
section
variable{l:List ng}{L:Nat->Option Lv}{r:Nat}{d:Nat->Option eZ}{b t t':Nat}{a:Ws}
theorem Pw.fit(h:Pw l L r d b w κ P S K t):Fit (ep l) w:=h.co.env.fit
theorem Pw.hJ{W:List Nat}(h:Pw l L r d b w κ P S K t)(F:nC (ep l) W w w')(z:∀k,k∈W->k<w.heap.size->Mw P.kb l L w k/\κ k<300)(X:∀k,300<=κ k->κ' k=κ k)(I:∀k,κ' k≠0->Mw P.kb l L w' k)(R:Pm (ep l) κ' w' P a K)(s:a.U=S.U)(A:a.V=S.V)(B:a.N=S.N)(C:a.Xs=S.Xs)(E:a.ts=S.ts)(H:t<=t')(G:∀c,c<4->a.bN c<=4*t'):Pw l L r d b w' κ' P a K t':=by
 have u:∀k,300<=κ k->w'.heap[k]?=w.heap[k]?:=λk v=>by
  have m:=h.mw k Za;exact F.old k m.mn.lt λx=>by have:=(z k x m.mn.lt).2;omega
 refine⟨h.co.wrote F.size mX λk v M=>F.old k v λx=>M (z k x v).1,h.nS,λi f=>?_,λi f=>?_,I,R,by rw[s,E];exact h.tie,by rw[s];exact h.one,by rw[s];exact h.all,h.sz,h.pos,λi p f j=>by rw[B];exact Zh (h.tN i p f j) H,λi p T f j e=>by rw[E]at e;exact Zh (h.tL i p T f j e) H,G,by rw[C];exact h.xi⟩
 .rw[s,A,B,C];have o:=h.lm i f;have q:=h.lc i f;exact⟨⟨o.m.is.same (u _ (by rw[q.1];omega)) (u _ (by rw[q.2.1];omega)) (u _ (by rw[q.2.2.1];omega)) λp j g y=>u g (by rw[q.2.2.2 p g j y];omega),o.m.qt.grow F.size,o.m.qo.grow F.size,o.m.qU.grow F.size,λp j g y=>(o.m.qJ p j g y).grow F.size,o.m.b0⟩,o.live⟩
 .rw[A];have q:=h.lc i f
  grind
end
variable{main:Bool}{bb:Nat}{V:Nat->Vu}{A:Nat->Option BkB}
section
variable{X:Nat->List Vu}
theorem YJ{a0 a1 a2 b0' b1 b2:Option cx}{n0 n1 n2 c0 c1 c2 d0 d1 d2:Nat}{F2:Nat->Vu}(y:n0<=8000000000000)(h1:n1<=8000000000000)(z:n2<=8000000000000)(T0:wa w 0 n0 a0 b0' o)(T1:wa w 1 n1 a1 b1 p)(T2:wa w 2 n2 a2 b2 F2)(e':Fit sft w)(f':∀k,w.heap.size<=k->sft k=0) :
  oL main sft 46 #[.agg #[.slice a0 n0 c0,.slice a1 n1 c1,.slice a2 n2 c2],.agg #[.slice b0' n0 d0,.slice b1 n1 d1,.slice b2 n2 d2]] w λx w'=>x=Bo true/\nC sft [] w w':=by
 refine y7 (sz:=30) (ρ:=[]) (ro:=0) (W:=[]) (m:=[]) [.g [.v (.slice a0 n0 c0),.v (.slice a1 n1 c1),.v (.slice a2 n2 c2)],.g [.v (.slice b0' n0 d0),.v (.slice b1 n1 d1),.v (.slice b2 n2 d2)]] ⟨λe he=>(by cases he),λi B=>(by cases B),λi j B=>(by cases B),λi _ z=>(by cases z),e',f'⟩ (λs G=>?_) lM Z Z Z λStop fr cs h' M u=>?_
 .simp only[ae,aj,or_false]at G;rcases G with rfl|rfl<;>(intro x u;simp only[ae,aj,or_false]at u;rcases u with rfl|rfl|rfl<;>trivial)
 have C:∀ {c n:Nat} {a b:Option cx} {F:Nat->Vu} {d:Wd},wa w c n a b F->nC sft [] w d->wa d c n a b F:=λ{c n a b F d} T L y=>by
  let⟨g,h,e1,e2,l1,l2,E⟩:=T y;have o1:=λH=>Zf (w:=w) (w':=d) (a:=(O g H Q)) (L.old g l1 Zc);have o2:=λH=>Zf (w:=w) (w':=d) (a:=(O h H Q)) (L.old h l2 Zc);exact⟨g,h,e1,e2,Zg l1 L.size,Zg l2 L.size,λj I=>⟨(E j I).1,λq v R=>(o1 _).trans ((E j I).2.1 q v R),λq v R=>(o2 _).trans ((E j I).2.2 q v R)⟩⟩
 have W:∀ {ρ:ou} {m:Mem} {g':l9} {a:cZ} {d:Wd},fx sft [] 0 w ρ m 30 g' a d->∀k,d.heap.size<=k->sft k=0:=λM k hk=>M.new k (Zh M.size hk);refine pQ 200 0 [] M Z Z mX λi' w1 j' b3 f=>A4 f (BM (c:=0) Za y (C T0 f.hJ) f.fit (W f)) Z Z Z (xp (c:=0) Za) Z Z Z Z Z λx w2 l=>?_;obtain⟨rfl,L2⟩:=l;refine E3 (f.still L2) 2 (.c (.v (Bo true))) Z Z Z Z Z λa3 M3=>ia 200 2 [] M3 Z Z mX λa4 w4 r=>A4 r (BM (c:=1) Za h1 (C T1 r.hJ) r.fit (W r)) Z Z Z (xp (c:=1) Za) Z Z Z Z Z λx w5 l=>?_;obtain⟨rfl,L5⟩:=l;refine E3 (r.still L5) 2 (.c (.v (Bo true))) Z Z Z Z Z λa6 M6=>ia 200 2 [] M6 Z Z mX λa7 w7 t=>A4 t (BM (c:=2) Za z (C T2 t.hJ) t.fit (W t)) Z Z Z (xp (c:=2) Za) Z Z Z Z Z λx w8 l=>?_;obtain⟨rfl,L8⟩:=l;refine E3 (t.still L8) 2 (.c (.v (Bo true))) Z Z Z Z Z λa9 M9=>ia 200 2 [] M9 Z Z mX λk' l' c'=>A9 c' lM Z Z Z<|u _ _ ⟨Z,c'.hJ⟩
structure Os (sft κ:Nat->Nat) (w:Wd) (s0 bb:Nat) (N:Nat->Nat) (g n:Nat->Nat) (xs:Nat->List Vu) (c:Nat) (κ':Nat->Nat) (V':Nat->Vu) (N':Nat->Nat) (X':Nat->List Vu) (A':Nat->Option BkB) (w':Wd):Prop where
 b:pG sft κ' w' bb V' N' X' A'
 kp:∀q,κ' q=κ q\/κ' q=6/\q<w'.heap.size/\(q<s0->∃d,d<c/\q=g d)
 AG:w.heap.size<=s0/\s0<=w'.heap.size
 n1:∀d,d<c->N' d=N d+4
 n2:∀d,c<=d->N' d=N d
 row:∀d,c<=d->d<3->w'.ownsRow 0 (yE d) (yZ d) (Sc (J (O (g d) 0 Q)) (n d) (n d)) (n d) (xs d)
 hJ:nC sft (oN κ w.heap.size (λx=>aG x 6)++[g 0,g 1,g 2]) w w'
section
variable{s0:Nat}{g n:Nat->Nat}{xs:Nat->List Vu}{c:Nat}{l:Nat->Vu}{o:Nat->Nat}{p:Nat->List Vu}{f:Nat->Option BkB}{b r:Wd}
theorem Os.no(j:Os sft κ w s0 bb N g n xs c κ' l o p f w')(k:κ a≠6)(m:∀d,d<c->a≠g d)(q:a<s0):f a=Q/\κ' a=κ a:=by
 have e:κ' a=κ a:=by
  rcases j.kp a with e|⟨_,_,e⟩
  all_goals grind
 refine⟨?_,e⟩
 cases h:f a with
 | none=>rfl
 | some x=>exact absurd (e.symm.trans (j.b.blk a x h).1) k
theorem Os.still(j:Os sft κ w s0 bb N g n xs c κ' l o p f b)(F:c<=3)(H:∀d,d<3->g d<w.heap.size)(I:w.heap.size<=a)(u:a<s0)(v:κ a≠6)(q:Kq [(a,0)] b r)(z:Fit sft r):Os sft κ w s0 bb N g n xs c κ' l o p f r:=by
 have h:∀k,k<b.heap.size->k≠a->r.heap[k]?=b.heap[k]?:=λk B C=>q.old k B λi E=>by obtain rfl:i=0:=Zm E;exact aA C
 have L:=(j.no v (λd R=>by grind) u).1;exact⟨j.b.same (λ_ _ _=>rfl) λq x s=>h q (j.b.blk q x s).2.lt (λe=>by grind),λy=>(j.kp y).imp_right λh=>⟨h.1,Zg h.2.1 q.size,h.2.2⟩,⟨j.AG.1,Zh j.AG.2 q.size⟩,j.n1,j.n2,λd m t=>j5 (j.row d m t) λq s=>h q (j8 (j.row d m t) s).2 (by obtain rfl:g d=q:=Ze s;grind),⟨Zh j.hJ.size q.size,λk m t=>(h k (Zg m j.hJ.size) Za).trans (j.hJ.old k m t),z⟩⟩
theorem Os.call(a:Os sft κ w s0 bb N g n xs c κ' l o p f b)(E:c<3)(F:∀d,d<3->g d<w.heap.size/\sft (g d)=0/\κ (g d)≠6)(z:∀d e,d<3->e<3->d≠e->g d≠g e)(hN:N c<=7036874417564)(hn:n c<=32)(a':Fit sft b)(b':∀k,b.heap.size<=k->sft k=0) :
  oL main sft (yF c) #[Po (J (O bb 0 Q)),Sc (J (O (g c) 0 Q)) (n c) (n c)] b λx w'=>x=.tuple #[]/\nC sft (yW κ' b (Sc (J (O (g c) 0 Q)) (n c) (n c))) b w'/\∃c' H I R u,Os sft κ w s0 bb N g n xs (c+1) c' H I R u w':=by
 let⟨g1,g2,g3⟩:=F c E;have T:=a.AG;have gn:=a.no g3 (λd v=>z c d E Za Za) Za;intro Stop fr cs hx;refine I1 Za a.b a' b' (a.row c (af _) E) (λq t=>?_) (by rw[a.n2 c (af _)];exact hN) Za (λj hj=>?_) Stop fr cs λx w' W=>hx x w' ⟨W.1,W.2.1,?_⟩
 .obtain rfl:g c=q:=Ze t
  grind
 .have:n c+j<=34:=by omega
  have s:aR (n c+j+1) (n c+j)<=8796093022152:=App.oJ Za;have m:aR (n c+j+1) (n c+j)<=1000:=by
   unfold aR
   grind
  have B:yB c<=160:=by
   cases c,(Za:c<3) using iN
   all_goals decide
  calc _<=1000*160:=Nat.mul_le_mul m B
   _<=_:=by decide
 .let⟨_,L,H,I,R,u,G,m1,M,m3⟩:=W;have gm:∀d,d<3->g d∈[g 0,g 1,g 2]:=λd z=>by
   grind
  have ny:∀q,q<w.heap.size->κ q≠6->(∀d,d<c+1->q≠g d)->q∉yW κ' b (Sc (J (O (g c) 0 Q)) (n c) (n c)):=λq s m B y=>by
   rcases bZ.1 y with y|y
   .have:=Zl (A6.1 y).2;rw[(a.no m (λd z=>B d Za) Za).2]at this;exact m this
   .exact B c Za (Zi y)
  refine⟨qL κ' u,H,I,R,u,G,λq=>?_,⟨T.1,Zh T.2 L.size⟩,λd v=>?_,λd v=>?_,λd s m=>j5 (a.row d Za m) λq t=>?_,⟨Zh a.hJ.size L.size,λq s m=>?_,L.fit⟩⟩
  .unfold qL
   by_cases h:(u q).isSome=true
   .rw[mZ h]
    by_cases h6:κ q=6
    .grind
    .let⟨x,d'⟩:=cH.1 h;refine .inr ⟨Z,(G.blk q x d').2.lt,λt=>?_⟩;rcases m3 q (Zg t T.2) h with e|e
     .rcases a.kp q with C|⟨_,_,C⟩
      all_goals grind
     .exact⟨c,by omega,(Ze e).symm⟩
   .rw[mY h];rcases a.kp q with C|⟨e0,ez,C⟩
    .exact .inl C
    .exact .inr ⟨e0,Zg ez L.size,λt=>by grind⟩
  .by_cases e:d=c
   .subst e;rw[m1,a.n2 d (af _)]
   .rw[M d e,a.n1 d Za]
  .rw[M d Za,a.n2 d Za]
  .obtain rfl:g d=q:=Ze t;exact L.old _ (j8 (a.row d Za m) Z).2 (ny _ (F d m).1 (F d m).2.2 λe he=>z d e m Za Za)
  .have h6:κ q≠6:=λe=>m (fK _ (A6.2 ⟨s,by rw[e];rfl⟩));have h7:∀d,d<3->q≠g d:=λd v e=>m (da _ (e▸gm d v));rw[L.old q (Zg s a.hJ.size) (ny q s h6 λd v=>h7 d Za),a.hJ.old q s m]
theorem b3a(B:pG sft κ w bb V N X A)(f':∀k,w.heap.size<=k->κ k≠6)(k':Fit sft w)(l':∀k,w.heap.size<=k->sft k=0)(hl:∀d,d<3->w.ownsRow 0 (yE d) (yZ d) (Sc (J (O (g d) 0 Q)) (n d) (n d)) (n d) (xs d))(hg:∀d,d<3->g d<w.heap.size/\sft (g d)=0/\κ (g d)≠6)(F:∀d e,d<3->e<3->d≠e->g d≠g e)(hN:∀c,c<3->N c<=7036874417564)(hn:∀c,c<3->n c<=32) :
  oL main sft 47 #[Po (J (O bb 0 Q)),.agg #[Sc (J (O (g 0) 0 Q)) (n 0) (n 0),Sc (J (O (g 1) 0 Q)) (n 1) (n 1),Sc (J (O (g 2) 0 Q)) (n 2) (n 2)]] w λx w'=>x=.tuple #[]/\∃s0 H I R T W,Os sft κ w s0 bb N g n xs 3 H I R T W w':=by
 refine y7 (sz:=16) (ρ:=[]) (ro:=0) (W:=oN κ w.heap.size (λx=>aG x 6)++[g 0,g 1,g 2]) (m:=[]) [.c (.v (Po (J (O bb 0 Q)))),.g [.v (Sc (J (O (g 0) 0 Q)) (n 0) (n 0)),.v (Sc (J (O (g 1) 0 Q)) (n 1) (n 1)),.v (Sc (J (O (g 2) 0 Q)) (n 2) (n 2))]] ⟨λe he=>(by cases he),λi v=>(by cases v),λi j v=>(by cases v),λi _ h2=>(by cases h2),k',l'⟩ (λs hs=>?_) lL Z Z Z λStop fr cs n' M hx=>?_
 .simp only[ae,aj,or_false]at hs;rcases hs with rfl|rfl<;>first|trivial|(intro x hx;simp only[ae,aj,or_false]at hx;rcases hx with rfl|rfl|rfl<;>trivial)
 have nw:∀ {ρ:ou} {m:Mem} {G:l9} {a:cZ} {y:Wd},fx sft (oN κ w.heap.size (λx=>aG x 6)++[g 0,g 1,g 2]) 0 w ρ m 16 G a y->∀k,y.heap.size<=k->sft k=0:=λM k hk=>M.new k (Zh M.size hk);refine zY 200 0 [] M Z Z Z mX λa1 b C E q1 z=>?_;have e1:∀k,k<w.heap.size->b.heap[k]?=w.heap[k]?:=λk hk=>q1.old k hk λi v=>(by cases v)
 have O1:Os sft κ w b.heap.size bb N g n xs 0 κ V N X A b:=⟨B.same (λ_ _ _=>rfl) λq x u=>e1 q (B.blk q x u).2.lt,λq=>.inl Z,⟨q1.size,af _⟩,λd h=>absurd h (ik d),λ_ _=>rfl,λd _ h=>j5 (hl d h) λq u=>e1 q (j8 (hl d h) u).2,⟨q1.size,λk hk _=>e1 k hk,E.fit⟩⟩;have h':C<b.heap.size:=Q6 E (i:=0) Zc
 have to:∀ {c:Nat} {κ':Nat->Nat} {l:Nat->Vu} {o:Nat->Nat} {p:Nat->List Vu} {f:Nat->Option BkB} {y wj:Wd} {m:Mem} {G:l9} {a:cZ} {H:Nat->Nat} {I:Nat->Vu} {R:Nat->Nat} {T:Nat->List Vu} {W:Nat->Option BkB},Os sft κ w b.heap.size bb N g n xs c κ' l o p f y->c<3->fx sft (oN κ w.heap.size (λx=>aG x 6)++[g 0,g 1,g 2]) 0 w [(C,0)] m 16 G a y->nC sft (yW κ' y (Sc (J (O (g c) 0 Q)) (n c) (n c))) y wj->Os sft κ w b.heap.size bb N g n xs (c+1) H I R T W wj->fx sft (oN κ w.heap.size (λx=>aG x 6)++[g 0,g 1,g 2]) 0 w [(C,0)] m 16 G a wj:=λ{c κ' l o p f y wj m G a H I R T W} t hc M L O2=>M.to L.size (λi v=>by
   obtain rfl:i=0:=Zm v;refine L.old _ (Q6 M v) λhm=>?_;show False;rcases bZ.1 hm with hm|hm
   .have e:=Zl (A6.1 hm).2;rcases t.kp C with e'|⟨_,_,e'⟩
    .exact f' C z (e'.symm.trans e)
    grind
   .have e:C=g c:=Zi hm
    grind) (λk h1 h2=>(O2.hJ.old k h1 h2).trans (t.hJ.old k h1 h2).symm) L.fit
 refine A4 E (O1.call (main:=main) Za hg F (hN 0 Za) (hn 0 Za) E.fit (nw E)) Z Z Z (yn (c:=0) Za) Z Z Z Z Z λx r u=>?_;obtain⟨rfl,L2,H,I,R,T,W,O2⟩:=u;refine E3 (to O1 Za E L2 O2) 1 (.t []) Z Z Z Z Z λa3 M3=>p7 200 1 [] M3 Z Z mX λa4 w4 M4 q4=>?_;have i':∀d,d<3->g d<w.heap.size:=λd F=>(hg d F).1;have O4:=O2.still Za i' z h' (f' _ z) q4 M4.fit;refine A4 M4 (O4.call (main:=main) Za hg F (hN 1 Za) (hn 1 Za) M4.fit (nw M4)) Z Z Z (yn (c:=1) Za) Z Z Z Z Z λx w5 u=>?_;obtain⟨rfl,L5,t',V5,N5,X5,A5,O5⟩:=u;refine E3 (to O4 Za M4 L5 O5) 1 (.t []) Z Z Z Z Z λa6 M6=>p7 200 1 [] M6 Z Z mX λa7 w7 M7 q7=>?_;have O7:=O5.still Za i' z h' (f' _ z) q7 M7.fit;refine A4 M7 (O7.call (main:=main) Za hg F (hN 2 Za) (hn 2 Za) M7.fit (nw M7)) Z Z Z (yn (c:=2) Za) Z Z Z Z Z λx w8 u=>?_;obtain⟨rfl,L8,D',V8,N8,X8,A8,O8⟩:=u;refine E3 (to O7 Za M7 L8 O8) 1 (.t []) Z Z Z Z Z λa9 M9=>p7 200 1 [] M9 Z Z mX λM' N' j' m'=>EH j' lL Z Z Z<|hx _ _ ⟨Z,_,_,_,_,_,_,O8.still Za i' z h' (f' _ z) m' j'.fit⟩
end
end
theorem c7m(K:aa)(e:a<3)(j:Nat):BD a (cut (qi K a) (j*yZ a) (yZ a)):=by
 cases a,(Za:a<3) using iN
 .exact λq c=>⟨_,wD _ _ _ _ c⟩
 .have n:∀q,q<20->¬(4<=q/\q<=18/\q%2=0)->W8 (cut (qi K 1) (j*yZ 1) (yZ 1)).toArray q:=λq c h=>⟨K.S j q,(wD _ _ _ _ c).trans (congrArg J (K8 K j q c h))⟩
  have b:∀q,q<20->4<=q/\q<=18/\q%2=0->xg (cut (qi K 1) (j*yZ 1) (yZ 1)).toArray q:=λq c h=>⟨K.B j q,(wD _ _ _ _ c).trans (congrArg J (W5 K j q c h))⟩
  exact⟨n 0 Za Za,n 1 Za Za,n 2 Za Za,λi d=>⟨n _ Za Za,b _ Za Za⟩,λi d=>⟨n _ Za Za,b _ Za Za⟩,n 19 Za Za⟩
 .exact λq c=>⟨_,wD _ _ _ _ c⟩
theorem DY{w:Wd}{n:Nat}(h:w.rowIs a c (n*d) o)(e:n<=iT):w.ownsRow 0 c d (Sc (J (O a 0 Q)) n n) n (cut o 0 (n*d)):=by
 let⟨f,g,j,k⟩:=h;refine⟨by simp[cut],.inr ⟨a,n,f,Z,aW _,g,af _,e,j,?_⟩⟩;apply List.ext_getElem?;intro q;rcases bQ q (n*d) with h|h
 .rw[kD h,Array.getElem?_toList,k q h];have:=wD o 0 (n*d) q h
  grind
 .rw[eX (by simp;omega),eX (by simp[cut];omega)]
theorem MB{w:Wd}{n:Nat}(h:w.rowIs a c (n*d) o){j:Nat}(f:j<n):w.rangeAt a (j*d) (cut o (j*d) d):=λq v g=>by
 let⟨m,k,p,r⟩:=h;have l:q<d:=by have:=(bD.1 g).1;simpa[cut] using this
 have:(j+1)*d<=n*d:=jF _ f;rw[mH]at this;have e:=wD o (j*d) d q l;simp only[aC,k]
 grind
def F3(a:Kb)(L:Nat->Option Lv)(κ:Nat->Nat)(w:Wd)(c:Nat->Option Lv)(κ':Nat->Nat)(w':Wd):Prop:=∀k,Mn a L w k->κ k=0\/κ k=8->κ' k=κ k/\Mn a c w' k/\w'.heap[k]?=w.heap[k]?
variable{l:List ng}{L:Nat->Option Lv}{r:Nat}{Inb:Nat->Option eZ}{nG t:Nat}
theorem Grown.hJ{a:Kb}(g:Grown w w')(c:Co a l K L r Inb nG w):nC (ep l) [] w w':=⟨g.size,λk d _=>g.old k d,(c.grown g).env.fit⟩
theorem Pw.Ba(h:Pw l L r Inb nG w κ P S K t){k:Nat}(a:κ k≠0):k<w.heap.size:=(h.mw k a).mn.lt
theorem Xu{f:Kb}(j:Co f l K L r Inb nG w):oL true (ep l) 33 #[Po (J (O f.bk 0 Q))] w λx w'=>∃a c e,x=rN K a c e/\Grown w w'/\qa w' a c e K/\w.heap.size<=a/\w.heap.size<=c/\w.heap.size<=e :=
 Bx λk m d=>(b5G j k m d).mono (λ_ _ _ h=>h) λg w' o=>by
  grind
def ri(a b c:Nat):Nat->Nat
 | 0=>a
 | 1=>b
 | _=>c
theorem GN{w:Wd}{b t n:Nat}(h:w.rowIs a t n o)(k:w.rowIs b c d p)(f:t≠c):a≠b:=λe=>by
 subst e;let⟨_,g,_⟩:=h;let⟨_,j,_⟩:=k
 grind
theorem PY(S:qa w a c d K)(f e:Nat)(k:f<3)(m:e<3)(j:f≠e):ri a c d f≠ri a c d e:=by
 have g:=GN S.f S.s Zb;have b:=GN S.f S.d Zb;have h:=GN S.s S.d Zb;cases f,(Za:f<3) using iN
 all_goals
  cases e,(Za:e<3) using iN
  all_goals first|exact absurd Z j|exact g|exact b|exact h|exact aA g|exact aA b|exact aA h
theorem IU(h:Pw l L r Inb nG w κ P S K t)(ht:t<=1000000000000):oL true (ep l) 18 #[Po (J (O P.bw 0 Q))] w λx w'=>x=Bo true/\∃κ' S',Pw l L r Inb nG w' κ' P S' K (t+1)/\F3 P.kb L κ w L κ' w':=by
 have C:=h.pm;refine y7 (sz:=26) (ρ:=[(P.bw,0)]) (ro:=1) (W:=oN κ w.heap.size λx=>aG x 6) (m:=[(0,0,.v (Po (J (O P.kb.bk 0 Q)))),(0,1,.v (Po (J (O P.B.b 0 Q)))),(0,4,.v (Po (J (O P.bb 0 Q))))]) [.c (.p 0 0)] ⟨λe he=>?_,λi v=>?_,λi j v hj hne=>?_,λi E F=>?_,h.fit,h.co.soft⟩ (λs hs=>?_) jy Z Z Z λStop fr cs act M hx=>?_
 .simp only[ae,aj,or_false]at he;rcases he with rfl|rfl|rfl<;>refine⟨cJ,mX,?_⟩
  .exact C.w0
  .exact C.w1
  .exact C.w4
 .obtain rfl:i=0:=Zm v;exact C.rw.1
 .grind
 .grind
 .obtain rfl:=Zi hs;exact cJ
 refine p7 200 1 [] M Z Z mX λa1 w1 M1 q1=>?_;have O':P.bw∉oN κ w.heap.size (λx=>aG x 6):=λH=>by
  have:=Zl (A6.1 H).2;rw[C.rw.2]at this;cases this
 have m':∀ {ρ:ou} {m:Mem} {p':l9} {a:cZ} {u:Wd},fx (ep l) (oN κ w.heap.size λx=>aG x 6) 1 w ρ m 26 p' a u->(∀k,k<w.heap.size->k≠P.bw->u.heap[k]?=w.heap[k]?)->∀k,k<w.heap.size->u.heap[k]?=w.heap[k]?:=λM h k p=>by
  by_cases e:k=P.bw
  .subst e;exact M.old _ p O'
  .exact h k p e
 have nw:∀ {ρ:ou} {m:Mem} {p':l9} {a:cZ} {u:Wd},fx (ep l) (oN κ w.heap.size λx=>aG x 6) 1 w ρ m 26 p' a u->∀k,u.heap.size<=k->ep l k=0:=λM k p=>M.new k (Zh M.size p);have one:∀ {u wj:Wd},Kq [(P.bw,0)] u wj->∀k,k<u.heap.size->k≠P.bw->wj.heap[k]?=u.heap[k]?:=λq k p hn=>q.old k p λi v=>by obtain rfl:i=0:=Zm v;exact aA hn
 have e1:=m' M1 (one q1);have x':=h.co.grown ⟨q1.size,e1,mX⟩;refine A4 M1 (Xu x') Z Z Z Tryz.func33 Z Z Z Z Z λx w2 hq=>?_;obtain⟨y,z,B,rfl,G2,S2,g1,g2,g3⟩:=hq;refine E3 (M1.still (G2.hJ x')) 1 (.g [.v (Sc (J (O y 0 Q)) K.nF K.nF),.v (Sc (J (O z 0 Q)) K.nS K.nS),.v (Sc (J (O B 0 Q)) K.nD K.nD)]) Z Z Z Z Z λa3 M3=>zY 200 1 [] M3 Z Z Z mX λa4 w4 I M4 q4 f4=>?_;have wz1:=M1.size;have wz2:=G2.size;have e4:=m' M4 λk p hn=>by rw[one q4 k Za hn,G2.old k Za,e1 k p]
 refine A4 M4 (Mz M4.fit (nw M4) (C.R.keep λk p=>e4 k (C.R.lt p)) C.rX) Z Z Z Tryz.func45 Z Z Z Z Z λx w5 hq=>?_;obtain⟨L5,bo,gt,cb,rfl,T5,T'⟩:=hq;refine E3 (M4.still L5) 2 (.g [.v (.slice (bo 0) K.nF (cb 0)),.v (.slice (bo 1) K.nS (cb 1)),.v (.slice (bo 2) K.nD (cb 2))]) Z Z Z Z Z λa6 M6=>zY 200 2 [] M6 Z Z Z mX λa7 w7 R M7 q7 f7=>?_;have wz4:=q4.size;have wz5:=L5.size;have V':=q7.size;have b3l:I<w4.heap.size:=Q6 M4 (i:=1) Zc;have b4l:R<w7.heap.size:=Q6 M7 (i:=2) Zc;have bwl:=C.rw.1.lt;have q':∀k,k<w5.heap.size->k≠P.bw->k≠I->w7.heap[k]?=w5.heap[k]?:=λk p E F=>q7.old k p λi v=>by
  have v:i<2:=v;obtain rfl|rfl:i=0\/i=1:=by omega
  .exact aA E
  .exact aA F
 have e7:=m' M7 λk p hn=>by rw[q' k Za hn Za,L5.old k Za Zc,e4 k p]
 have n7:∀k,w.heap.size<=k->k<w2.heap.size->w7.heap[k]?=w2.heap[k]?:=λk E F=>by rw[q' k Za Za Za,L5.old k Za Zc,one q4 k F Za]
 have lF:=S2.f.lt;have lS:=S2.s.lt;have lD:=S2.d.lt;have S7:qa w7 y z B K:=S2.same λk p=>by rcases p with rfl|rfl|rfl<;>exact n7 _ Za Za
 have T7:vx w7 K bo gt:=T5.same V' λc hc h0=>by
  have:=T' c hc h0;have:=(T5 c hc h0).2.1;exact q' _ this Za Za
 obtain⟨z1,z2,z3⟩:=h.sz;have tw:∀c gc,c<3->w7.rowIs gc (yE c) (qx K c*yZ c) (qi K c)->wa w7 c (qx K c) (J (O gc 0 Q)) (bo c) (qi K c):=λc gc hc hr h0=>by
  obtain⟨t1,t2,t3⟩:=T7 c hc h0;refine⟨gc,gt c,Z,t1,hr.lt,t2,λj hj=>⟨c7m K hc j,MB hr hj,?_⟩⟩;have:=t3 j hj;cases c,(Za:c<3) using iN
  all_goals exact this
 have nS6:K.nS<=6:=C.rX.i.hS;refine A4 M7 (YJ (a0:=J (O y 0 Q)) (a1:=J (O z 0 Q)) (a2:=J (O B 0 Q)) (b0':=bo 0) (b1:=bo 1) (b2:=bo 2) (n0:=K.nF) (n1:=K.nS) (n2:=K.nD) (c0:=K.nF) (c1:=K.nS) (c2:=K.nD) (d0:=cb 0) (d1:=cb 1) (d2:=cb 2) Za Za Za (tw 0 y Za S7.f) (tw 1 z Za S7.s) (tw 2 B Za S7.d) M7.fit (nw M7)) Z Z Z lM Z Z Z Z Z λx w8 hq=>?_;obtain⟨rfl,L8⟩:=hq;refine E3 (M7.still L8) 3 (.c (.v (Bo true))) Z Z Z Z Z λa9 M9=>p7 200 3 [] M9 Z Z mX λa10 X k' r'=>?_;have wz8:=L8.size;have wz10:=r'.size;have s':∀ {u wj:Wd},Kq [(P.bw,0),(I,0),(R,0)] u wj->∀k,k<u.heap.size->k≠P.bw->k≠I->k≠R->wj.heap[k]?=u.heap[k]?:=λq k p E F h3=>q.old k p λi v=>by
  have v:i<3:=v;cases i,(Za:i<3) using iN
  .exact aA E
  .exact aA F
  .exact aA h3
 have D':=m' k' λk p hn=>by rw[s' r' k Za hn Za Za,L8.old k Za Zc,e7 k p]
 have n':qa X y z B K:=S7.same λk p=>by rcases p with rfl|rfl|rfl<;>rw[s' r' _ Za Za Za Za,L8.old _ Za Zc]
 have κ0:∀k,w.heap.size<=k->κ k=0:=λk p=>by
  cases e:κ k with
  | zero=>rfl
  | succ x=>have:=h.Ba (k:=k) (by grind);omega
 have B10:pG (ep l) κ X P.bb S.bV S.bN S.bX S.bA:=C.bk.same (λ_ _ _=>rfl) λg x hg=>D' g (C.bk.blk g x hg).2.lt;have o':∀d,d<3->w.heap.size<=ri y z B d/\ri y z B d<w2.heap.size:=λd T=>by
  cases d,(Za:d<3) using iN
  .exact⟨by show w.heap.size<=y;omega,lF⟩
  .exact⟨by show w.heap.size<=z;omega,lS⟩
  .exact⟨by show w.heap.size<=B;omega,lD⟩
 have nF32:K.nF<=iT:=by simp only[iT];omega
 have nS32:K.nS<=iT:=by simp only[iT];omega
 have nD32:K.nD<=iT:=by simp only[iT];omega
 have co10:=h.co.grown (w2:=X) ⟨k'.size,D',mX⟩
 have own:=b3a (main:=true) (g:=ri y z B) (n:=ri K.nF K.nS K.nD) (xs:=λd=>cut (qi K d) 0 (ri K.nF K.nS K.nD d*yZ d)) B10 (λk p=>by grind) k'.fit (nw k') (λd T=>by
  cases d,(Za:d<3) using iN
  .exact DY n'.f nF32
  .exact DY n'.s nS32
  .exact DY n'.d nD32) (λd T=>by
  grind) (PY n') (λc hc=>by have:=h.tB c Za;omega) (λc hc=>by
  cases c,(Za:c<3) using iN
  .exact z2
  .show K.nS<=32;omega
  .show K.nD<=32;omega)
 have t':∀ {s0:Nat} {W:Nat->Nat} {V2:Nat->Vu} {N2:Nat->Nat} {X2:Nat->List Vu} {A2:Nat->Option BkB} {u:Wd},Os (ep l) κ X s0 P.bb S.bN (ri y z B) (ri K.nF K.nS K.nD) (λd=>cut (qi K d) 0 (ri K.nF K.nS K.nD d*yZ d)) 3 W V2 N2 X2 A2 u->(∀k,k<X.heap.size->κ k≠6->(∀d,d<3->k≠ri y z B d)->A2 k=Q/\W k=κ k/\u.heap[k]?=X.heap[k]?):=λf k p h6 hg=>by
  have:=f.no h6 hg (Zg p f.AG.1);refine⟨this.1,this.2,f.hJ.old k p λH=>?_⟩;rcases bZ.1 H with H|H
  .exact h6 (Zl (A6.1 H).2)
  .simp only[ae,aj,or_false]at H
   grind
 have pb:∀i,i<3->(nJ [(P.bw,0),(I,0),(R,0)] i).1<X.heap.size/\κ (nJ [(P.bw,0),(I,0),(R,0)] i).1≠6/\∀d,d<3->(nJ [(P.bw,0),(I,0),(R,0)] i).1≠ri y z B d:=λi v=>by
  cases i,(Za:i<3) using iN
  .exact⟨by show P.bw<_;omega,by show κ P.bw≠6;rw[C.rw.2];decide,λd T=>by show P.bw≠_;have:=o' d T;omega⟩
  .exact⟨by show I<_;omega,by show κ I≠6;grind,λd T=>by show I≠_;have:=o' d T;omega⟩
  .exact⟨by show R<_;omega,by show κ R≠6;grind,λd T=>by show R≠_;have:=o' d T;omega⟩
 have E':∀ {s0:Nat} {W:Nat->Nat} {V2:Nat->Vu} {N2:Nat->Nat} {X2:Nat->List Vu} {A2:Nat->Option BkB} {u:Wd},Os (ep l) κ X s0 P.bb S.bN (ri y z B) (ri K.nF K.nS K.nD) (λd=>cut (qi K d) 0 (ri K.nF K.nS K.nD d*yZ d)) 3 W V2 N2 X2 A2 u->fx (ep l) (oN κ w.heap.size λx=>aG x 6) 1 w [(P.bw,0),(I,0),(R,0)] _ 26 _ a10 u:=λf=>k'.to f.hJ.size (λi v=>(t' f _ (pb i v).1 (pb i v).2.1 (pb i v).2.2).2.2) (λk E F=>(t' f k Za (λe=>F (A6.2 ⟨E,by rw[e];rfl⟩)) λd T=>by have:=o' d T;omega).2.2) f.hJ.fit;refine uU [(5,J (.t []))] [] false (λs xs ρ' w'=>ρ'=[(P.bw,0),(I,0),(R,0)]/\((s=0/\w'=X)\/(s=1/\∃s0 W V2 N2 X2 A2,Os (ep l) κ X s0 P.bb S.bN (ri y z B) (ri K.nF K.nS K.nD) (λd=>cut (qi K d) 0 (ri K.nF K.nS K.nD d*yZ d)) 3 W V2 N2 X2 A2 w'))) k' Z (λ_=>rfl) (λ_=>rfl) Z Zd mX (λs xs F' w' a' _ G E F=>?_) ⟨Z,.inl ⟨Z,Z⟩⟩ (λs j' g' hs xs o a' w' F' rest ho G Ma rd hn=>?_) λxs F' a11 w11 G lv11 wf11=>?_
 .obtain⟨e,G⟩:=G;obtain rfl:=Zk e;rcases G with⟨_,rfl⟩|⟨_,s0,W,V2,N2,X2,A2,f⟩
  .exact k'.bare E F
  .exact(E' f).bare E F
 .obtain⟨e,G⟩:=G;obtain rfl:=Zk e
  cases s with
  | succ s=>simp at hs
  | zero =>
   obtain⟨rfl,rfl⟩:=ax (Ze hs);rcases G with⟨_,rfl⟩|⟨h0,_⟩
   case inr=>cases h0
   obtain rfl:=Ze ho;refine Cd own ho Z Z lL Z Z ?_ λx w' hq=>?_
   .simp only[dq,cX,eE,rd (.tmp 22) (.c (.v (Po (J (O P.bb 0 Q))))) Z,rd (.tmp 23) (.g [.v (Sc (J (O y 0 Q)) K.nF K.nF),.v (Sc (J (O z 0 Q)) K.nS K.nS),.v (Sc (J (O B 0 Q)) K.nD K.nD)]) Z];rfl
   .obtain⟨rfl,f⟩:=hq;exact hn [] w' (J (.t [])) ⟨by simp,.inr ⟨Z,f⟩⟩ (.inr Z) λsv h=>by obtain rfl:=Ze h;intro x hx;cases hx
 .obtain⟨e,G⟩:=G;obtain rfl:=Zk e;rcases G with⟨h0,_⟩|⟨_,s0,W,V2,N2,X2,A2,f⟩
  .cases h0
  refine p7 200 3 [] ((E' f).re lv11 wf11) Z Z mX λa12 w12 l' L'=>A9 l' jy Z Z Z ?_;have kk:∀k,k<w.heap.size->W k=κ k:=λk p=>by
   rcases f.kp k with e|⟨_,_,e⟩
   .exact e
   .obtain⟨d,T,e⟩:=e (by have:=f.AG.1;omega)
    grind
  have B12:=f.b.same (κ':=W) (w':=w12) (λ_ _ _=>rfl) λg x hg=>by
   have no:∀i,i<3->g≠(nJ [(P.bw,0),(I,0),(R,0)] i).1:=λi v e=>by
    rw[e,(t' f _ (pb i v).1 (pb i v).2.1 (pb i v).2.2).1]at hg;cases hg
   exact s' L' g (f.b.blk g x hg).2.lt (no 0 Za) (no 1 Za) (no 2 Za)
  have nc:∀k,κ k≠6->k∉oN κ w.heap.size (λx=>aG x 6):=λk h6 H=>h6 (Zl (A6.1 H).2);refine hx _ _ ⟨Z,W,{ S with bV:=V2,bN:=N2,bX:=X2,bA:=A2 },h.hJ (t':=t+1) l'.hJ (λk p hl=>?_) (λk p=>kk k (h.Ba Za)) (λk p=>?_) (C.book (λk E F h6=>⟨kk k E,l'.old k E (nc k h6),(h.mw k F.1).sf⟩) B12) Z Z Z Z Z Za λc hc=>?_,λk H p=>?_⟩
  .have e:=Zl (A6.1 p).2;exact⟨h.mw k (by rw[e];decide),by rw[e];decide⟩
  .rcases f.kp k with e|⟨_,ez,e⟩
   .exact(h.mw k (by grind)).grow l'.size
   .rcases bQ k w.heap.size with hl|hl
    .exact(h.mw k (by grind)).grow l'.size
    .exact h.co.new hl (by have:=L'.size;omega)
  .have:=h.tB c hc
   by_cases hc3:c<3
   .have:=f.n1 c hc3;show N2 c<=_;omega
   .have:=f.n2 c Za;show N2 c<=_;omega
  .exact⟨kk k H.lt,H.grow l'.size,l'.old k H.lt (nc k Za)⟩
variable{I:Kb}{B0:Nat}{U:Nat->Option ng}
section
variable{b:Lb}
theorem YM{sft:Nat->Nat}{main:Bool}(o:Fit sft w)(p:w.cell? (O a 1 Q)=J (Sc (J (O c 0 Q)) n n))(s:Int):oL main sft 48 #[Po (J (O a 0 Q)),vi s] w λx w'=>x=Bo (oE s n)/\nC sft [] w w':=by
 refine xA o Zd (R:=λx v f=>x=Bo (oE s n)/\f=v) (λd v g=>(JN v a c n s (by rw[g.cell];exact p)).mono λe f h=>⟨_,h.1,Z,h.2⟩) ?_;rintro d x v f w' g j m ⟨rfl,rfl⟩;exact⟨Z,m.size,λk _ _=>C5 (w:=w.at d) m g j Z,j.fit⟩
theorem YY{sft:Nat->Nat}{main:Bool}(o:Fit sft w)(p:∀k,w.heap.size<=k->sft k=0)(q:w.cell? (O a 1 Q)=J (Sc (J (O d 0 Q)) n n))(s:a<w.heap.size)(c:oE e n=false):oL main sft 52 #[Po (J (O a 0 Q)),vi e] w λx w'=>x=.tuple #[Sc Q 0 0,vi 3]/\nC sft [] w w':=by
 refine y7 (sz:=30) (ρ:=[]) (ro:=0) (W:=[]) (m:=[]) [.c (.v (Po (J (O a 0 Q)))),.c (ci e)] ⟨λE u=>(by cases u),λi g=>(by cases g),λi j g=>(by cases g),λi _ v=>(by cases v),o,p⟩ (λe c=>?_) gX Z Z Z λStop F H R M y=>?_
 .simp only[ae,aj,or_false]at c;rcases c with rfl|rfl<;>trivial
 refine ia 200 0 [] M Z Z mX λT W f=>A4 f (YM f.fit ((Zf (w:=w) (f.old a s Zc)).trans q) e) Z Z Z iF Z Z Z Z Z λx G z=>?_;obtain⟨rfl,B⟩:=z;refine E3 (f.still B) 0 (.c (.v (Bo (oE e n)))) Z Z Z Z Z λX C=>ia 200 0 [] C Z Z mX λa4 w4 h=>nV h Z (by rw[c];rfl)<|ia 200 0 [] h Z Z mX λa5 w5 m=>A9 m gX Z Z Z<|y _ _ ⟨Z,m.hJ⟩
theorem b2Y(c:Co I l K L r Inb nG w)(e:oQ I l L w b n B0 U V N Xs)(f:a<n)(k:N a<=4398046511104)(m:∀x∈Xs a,x.oneCell'=true):oL true (ep l) 52 #[Po (J (O b.bl 0 Q)),vi a] w λx w'=>x=.tuple #[Sc (J (O w.heap.size 0 Q)) (N a) (N a),vi 0]/\nC (ep l) [] w w'/\w'.rowIs w.heap.size 92 (N a*5) (λj=>(Xs a).getD j (Bo false)) :=
 Bx λo p d=>(c1m c e f k m o p d).mono (λ_ _ _ h=>h) λg w' q=>by
  obtain⟨x,rfl,s,u,v⟩:=q;exact⟨_,Z,u,s.hJ c,v⟩
def Vx:List bh:=match Tryz.f23.body with
 | some (.seq _ (.seq _ (.seq _ (.seq _ (.seq _ c)))))=>[.code c]
 | _=>[]
theorem Pw.off(h:Pw l L r Inb nG w κ P S K t)(c:w.heap.size<=a):κ a=0:=by
 cases e:κ a with
 | zero=>rfl
 | succ x=>have:=(h.mw a (by grind)).mn.lt;omega
theorem Le(h:Pw l L r Inb nG w κ P S K t)(ht:t<=1000000000000){C:Option cx}{xs:List Vu}(f:a<=1000000000000)(p:w'.ownsRow 0 92 5 (.slice C a a) a xs)(v:∀g,(di C a a).ownBlock=J g->w.heap.size<=g)(M:fx (ep l) [] 1 w [(P.bw,0)] [(0,4,.v (Po (J (O P.bb 0 Q))))] 60 [(0,.c (.p 0 0)),(7,.c (.v (.slice C a a)))] m w'){Stop:Gr->Wd->Prop}{fr:Fm'}{cs:List Fm'}(hx:∀w',(∃κ' S',Pw l L r Inb nG w' κ' P S' K (t+1)/\F3 P.kb L κ w L κ' w')->iv J' true true (ep l) Stop (G (fr.finish (Bo true)) cs) w'):iv J' true true (ep l) Stop (G ((base 23).at m Vx) (fr::cs)) w':=by
 have o:=h.pm;refine p7 200 1 [] M Z Z mX λa1 y q q1=>?_;have d':y.ownsRow 0 (yE 3) (yZ 3) (.slice C a a) a xs:=j5 p λg s=>q1.old g (j8 p s).2 λi E=>by
  obtain rfl:i=0:=Zm E;have:=o.rw.1.lt;have:=v g s;show P.bw≠g;omega
 have e1:∀k,k<w.heap.size->y.heap[k]?=w.heap[k]?:=λk d=>q.old k d Zc;have B1:pG (ep l) κ y P.bb S.bV S.bN S.bX S.bA:=o.bk.same (λ_ _ _=>rfl) λg x v=>e1 g (o.bk.blk g x v).2.lt;have nA:∀k,w.heap.size<=k->S.bA k=none:=λk d=>by
  cases e:S.bA k with
  | none=>rfl
  | some x=>have:=(o.bk.blk k x e).2.lt;omega
 have tB:=h.tB 3 Za;refine A4 q (I1 (c:=3) Za B1 q.fit (λk d=>q.new k (Zh q.size d)) d' (λg s=>⟨h.co.soft g (v g s),nA g (v g s)⟩) Za Za λj hj=>Hi Za) Z Z Z (yn (c:=3) Za) Z Z Z Z Z λx R hq=>?_;obtain⟨rfl,T,V2,N2,X2,z,W,n1,n2,o2⟩:=hq;have z1:=q.size;have z2:=T.size;have ny:∀k,k<y.heap.size->κ k≠6->(di C a a).ownBlock≠J k->R.heap[k]?=y.heap[k]?:=λk d u hn=>T.old k d λf=>by
  rcases bZ.1 f with f|f
  .exact u (Zl (A6.1 f).2)
  grind
 have c':∀k,k<w.heap.size->κ k≠6->R.heap[k]?=y.heap[k]?:=λk d u=>ny k Za u λe=>by have:=v k e;omega
 have M2:=(q.oZ (W':=oN κ w.heap.size λx=>aG x 6) Zc).to (w':=R) z2 (λi E=>by
  obtain rfl:i=0:=Zm E
  exact c' P.bw o.rw.1.lt (by rw[o.rw.2];decide)) (λk F X=>c' k F λe=>X (A6.2 ⟨F,by rw[e];rfl⟩)) T.fit
 refine E3 M2 1 (.t []) Z Z Z Z Z λa3 M3=>p7 200 1 [] M3 Z Z mX λa4 w4 B q4=>A9 B jx Z Z Z ?_;have H:∀k,k<w.heap.size->qL κ z k=κ k:=λk d=>by
  unfold qL
  grind
 have f':z P.bw=none:=by
  cases e:z P.bw with
  | none=>rfl
  | some x =>
   have:=H P.bw o.rw.1.lt;rw[(W.blk _ _ e).1,o.rw.2]at this;cases this
 have B4:=W.same (κ':=qL κ z) (w':=w4) (λ_ _ _=>rfl) λg x s=>q4.old g (W.blk g x s).2.lt λi E=>by
  obtain rfl:i=0:=Zm E;intro e;have e:P.bw=g:=e
  grind
 have nc:∀k,κ k≠6->k∉oN κ w.heap.size (λx=>aG x 6):=λk u f=>u (Zl (A6.1 f).2);refine hx _ ⟨qL κ z,{ S with bV:=V2,bN:=N2,bX:=X2,bA:=z },h.hJ (t':=t+1) B.hJ (λk d p=>?_) (λk d=>H k (h.Ba Za)) (λk d=>?_) (o.book (λk F X u=>⟨H k F,B.old k F (nc k u),(h.mw k X.1).sf⟩) B4) Z Z Z Z Z Za λc hc=>?_,λk f d=>?_⟩
 .have e:=Zl (A6.1 d).2;exact⟨h.mw k (by rw[e];decide),by rw[e];decide⟩
 .rcases bQ k w.heap.size with p|p
  .exact(h.mw k (by grind)).grow B.size
  .refine h.co.new p ?_;unfold qL at d;split at d
   .next e=>let⟨x,e'⟩:=cH.1 e;have:=(B4.blk k x e').2.lt;exact this
   .exact absurd (h.off p) d
 .have:=h.tB c hc
  grind
 .exact⟨H k f.lt,f.grow B.size,B.old k f.lt (nc k Za)⟩
theorem Ko(h:Pw l L r Inb nG w κ P S K t)(ht:t<=1000000000000){i:Nat}(d:i<2)(s:Int):oL true (ep l) 23 #[Po (J (O P.bw 0 Q)),vi i,vi s] w λx w'=>x=Bo true/\∃κ' S',Pw l L r Inb nG w' κ' P S' K (t+1)/\F3 P.kb L κ w L κ' w':=by
 have f:=h.pm;refine y7 (sz:=60) (ρ:=[(P.bw,0)]) (ro:=1) (W:=[]) (m:=[(0,2,.v (Sc (J (O P.wl 0 Q)) 2 P.cl)),(0,3,.v (Sc (J (O P.wm 0 Q)) 2 P.cm)),(0,4,.v (Po (J (O P.bb 0 Q))))]) [.c (.p 0 0),.c (ci i),.c (ci s)] ⟨λe he=>?_,λi d=>?_,λi j d F O'=>?_,λi h1 h2=>?_,h.fit,h.co.soft⟩ (λs hs=>?_) jx Z Z Z λStop fr cs V' M hx=>?_
 .simp only[ae,aj,or_false]at he;rcases he with rfl|rfl|rfl<;>refine⟨cJ,mX,?_⟩
  .exact f.w2
  .exact f.w3
  .exact f.w4
 .obtain rfl:i=0:=Zm d;exact f.rw.1
 .grind
 .grind
 .simp only[ae,aj,or_false]at hs;rcases hs with rfl|rfl|rfl<;>first|trivial|exact cJ
 have lm:=h.lm i d;have H:∀ {R:ou} {m:Mem} {T:l9} {a:cZ} {y:Wd},fx (ep l) [] 1 w R m 60 T a y->∀k,y.heap.size<=k->ep l k=0:=λM k W=>M.new k (Zh M.size W);have gr:∀ {R:ou} {m:Mem} {T:l9} {a:cZ} {y:Wd},fx (ep l) [] 1 w R m 60 T a y->Grown w y:=λM=>⟨M.size,λk W=>M.old k W Zc,mX⟩
 refine ia 200 1 [[Po (J (O ((P.lb i).bl) 0 Q))]] M Z Z ⟨⟨mX,by omega⟩,⟨f.r4.1.lt,by simp,by simpa using(f.l i d).1⟩⟩ λa1 w1 C=>?_;have rl:∀ {R:ou} {m:Mem} {T:l9} {a:cZ} {y:Wd},fx (ep l) [] 1 w R m 60 T a y->oh (ep l) κ i y (P.rb i) P.B.b P.n (S.ts i) (S.D i) (S.N i) (S.Xs i):=λM=>(f.rl i d).same λk W _=>⟨Z,M.old k W Zc⟩
 cases hb:oE s P.n with
 | false =>
  have c':=lm.grown (gr C);refine A4 C (YY C.fit (H C) c'.m.is.k1 c'.m.qt.mn.lt hb) Z Z Z gX Z Z Z Z Z λx w2 c=>?_;obtain⟨rfl,L2⟩:=c;refine E3 (C.still L2) 1 (.t [.c (.v (Sc Q 0 0)),.c (ci 3)]) Z Z Z Z Z λa3 G=>ia 200 1 [[Po (J (O ((P.rb i).bl) 0 Q))]] G Z Z ⟨⟨mX,by omega⟩,⟨f.r5.1.lt,by simp,by simpa using(f.l i d).2⟩⟩ λa4 w4 z=>A4 z (LI (rl z) z.fit (H z) s) Z Z Z jJ Z Z Z Z Z λx w5 c=>?_;let⟨L5,c⟩:=c;rcases c with⟨_,rfl⟩|⟨p,rfl,E,_⟩
  rotate_left
  .simp[oE]at hb;omega
  refine E3 (z.still L5) 1 (.t [.c (.v (Sc Q 0 0)),.c (ci 3)]) Z Z Z Z Z λa6 M6=>ia 200 1 [] M6 Z Z mX λa7 w7 B=>A4 B (BM (c:=3) (n:=0) (F:=λ_=>Bo false) Za Za (λh=>absurd h (iA 0)) B.fit (H B)) Z Z Z (xp (c:=3) Za) Z Z Z Z Z λx w8 c=>?_;obtain⟨rfl,L8⟩:=c;refine E3 (B.still L8) 1 (.c (.v (Bo true))) Z Z Z Z Z λa9 M9=>ia 200 1 [] M9 Z Z mX λi' j' X=>vR (op:=.binOp .neq 88 (.tmp 50) (.const (Sc Q 0 0)) 88) (.c (.v (Bo false))) X Z Z Z Zd Z Z Z mX (λo u ho hu=>?_) λa11 k'=>?_
  .have l':=(X.rd (x:=.tmp 50) (s:=.c (.v (Sc Q 0 0))) Z).1;unfold Ex;simp only[ho,l'];rfl
  refine ia 200 1 [] k' Z Z mX λa12 w12 f'=>nR f' Z Z<|ia 1 1 [] f' Z Z mX λm' n' e'=>Le h ht Za (dc _ _ _ _) (λg hg=>(by cases hg)) (fx.alike (ρ:=[(P.bw,0)]) [] e' 1 Z Z Z) λw' hP=>hx _ _ ⟨Z,hP⟩
 | true =>
  simp only[oE,aB,decide_eq_true_eq]at hb;obtain⟨p,rfl⟩:=cT hb.1;have E:p<P.n:=by omega
  have tN:=h.tN i p d E;have q':=h.co.grown (gr C);have c':=lm.grown (gr C);refine A4 C (b2Y q' c'.m E Za λx hx=>by obtain⟨v,rfl⟩:=h.xi i p x d E hx;rfl) Z Z Z gX Z Z Z Z Z λx w2 c=>?_;obtain⟨rfl,L2,r'⟩:=c;have z1:=C.size;generalize hgg:w1.heap.size=g at *;refine E3 (C.still L2) 1 (.t [.c (.v (Sc (J (O g 0 Q)) (S.N i p) (S.N i p))),.c (ci 0)]) Z Z Z Z Z λa3 G=>?_;have bwl:=f.rw.1.lt
  have kr:∀ {y wj:Wd},Kq [(P.bw,0)] y wj->y.rowIs g 92 (S.N i p*5) (λj=>(S.Xs i p).getD j (Bo false))->wj.rowIs g 92 (S.N i p*5) (λj=>(S.Xs i p).getD j (Bo false)):=λq hr=>hr.of_block (q.old g hr.lt λi d=>by
   obtain rfl:i=0:=Zm d
   show P.bw≠g;omega)
  refine p7 200 1 [[Po (J (O ((P.rb i).bl) 0 Q))]] G Z Z ⟨⟨mX,by omega⟩,⟨by have:=f.r5.1.lt;have:=G.size;grind,by simp,by simpa using(Zf (w:=w) (a:=(O P.wm i Q)) (G.old P.wm f.r5.1.lt Zc)).trans (f.l i d).2⟩⟩ λa4 w4 z q4=>?_;have h':=kr q4 r';refine A4 z (LI (rl z) z.fit (H z) p) Z Z Z jJ Z Z Z Z Z λx w5 c=>?_;let⟨L5,c⟩:=c;rcases c with⟨t',_⟩|⟨p',e,_,rfl⟩
  .simp[oE]at t';omega
  obtain rfl:p=p':=by omega
  have v':=h'.of_block (w':=w5) (L5.old g h'.lt Zc);obtain⟨ab,cb,eD⟩:∃ab cb,S.D i p=.slice ab (S.N i p) cb:=by
   rcases((f.rl i d).own p E).2 with⟨e,e0⟩|⟨gd,cp,y',e,_⟩
   all_goals grind
  rw[eD];refine E3 (z.still L5) 1 (.t [.c (.v (.slice ab (S.N i p) cb)),.c (ci 0)]) Z Z Z Z Z λa6 M6=>p7 200 1 [] M6 Z Z mX λa7 w7 B q7=>?_;have d':=kr q7 v';have a':=(rl B).own p E;have tw:wa w7 3 (S.N i p) (J (O g 0 Q)) ab (λj=>(S.Xs i p).getD j (Bo false)):=λh0=>by
   rw[eD]at a';obtain⟨xl,⟨_,e⟩|⟨gd,cp,y',e,_,B',_⟩⟩:=a'
   .omega
   obtain⟨rfl,_,rfl⟩:=gT e;have a':=(rl B).own p E;rw[eD]at a';have rj:∀j q,j<S.N i p->q<5->∃v,(S.Xs i p)[j*5+q]?=J (vi v):=λj q F c=>by
    have C':j*5+q<(S.Xs i p).length:=by grind
    let⟨v,e⟩:=h.xi i p _ d E (List.getElem_mem C')
    grind
   refine⟨g,gd,Z,Z,d'.lt,(Zj B').1,λj F=>⟨λq c=>?_,MB d' F,λq v hv=>?_⟩⟩
   .let⟨v,e⟩:=rj j q F c;refine⟨v,(wD _ _ _ _ c).trans ?_⟩;show J ((S.Xs i p).getD (j*5+q) (Bo false))=_
    grind
   .have c:q<5:=by have:=(bD.1 hv).1;simpa[cut,yZ] using this
    let⟨u,e⟩:=rj j q F c;have D':v=(S.Xs i p).getD (j*5+q) (Bo false):=by
     have:=wD (λj=>(S.Xs i p).getD j (Bo false)) (j*yZ 3) (yZ 3) q c;simp only[List.getElem?_toArray]at this;rw[this]at hv;exact(Ze hv).symm
    have:=a'.cells (g:=gd) Z _ _ e;rw[eG,aE]at this;rw[D',cG,e];exact this
  refine A4 B (BM (c:=3) Za Za tw B.fit (H B)) Z Z Z (xp (c:=3) Za) Z Z Z Z Z λx w8 c=>?_;obtain⟨rfl,L8⟩:=c;have E':=d'.of_block (w':=w8) (L8.old g d'.lt Zc);refine E3 (B.still L8) 1 (.c (.v (Bo true))) Z Z Z Z Z λa9 M9=>p7 200 1 [] M9 Z Z mX λi' j' X F'=>?_;have H':=kr F' E';refine nR X Z Z<|p7 1 1 [] X Z Z mX λm' n' e' K'=>?_;have L':=kr K' H';exact Le h ht Za (DY L' (by simp only[iT];omega)) (λg' N'=>by obtain rfl:g=g':=Ze N';omega) (fx.alike (ρ:=[(P.bw,0)]) [] e' 1 Z Z Z) λw' hP=>hx _ _ ⟨Z,hP⟩
end
theorem Pw.less(h:Pw l L (r+1) Inb nG w κ P S K t):Pw l L r Inb nG w κ P S K t:={ h with co:=h.co.less Za }
theorem Pw.later(h:Pw l L r Inb nG w κ P S K t)(g:t<=a):Pw l L r Inb nG w κ P S K a:={ h with tN:=λi p d f=>Zh (h.tN i p d f) g,tL:=λi p T d f e=>Zh (h.tL i p T d f e) g,tB:=λc j=>Zh (h.tB c j) Za }
theorem Pw.grown(h:Pw l L r Inb nG w κ P S K t)(F:nC (ep l) [] w w'):Pw l L r Inb nG w' κ P S K t :=
 h.hJ F (λk a=>(by cases a)) (λ_ _=>rfl) (λk a=>(h.mw k a).grow F.size) (h.pm.move λk a c=>⟨Z,F.old k a Zc,(h.mw k c.1).sf⟩) Z Z Z Z Z (af _) h.tB
theorem Pw.Ac(h:Pw l L r Inb nG w κ P S K t){k:Nat}(f:κ k=0)(c:Mw P.kb l L w k):Pw l L r Inb nG w (ai κ k 8) P S K t:=by
 have d:∀q,κ q≠0->ai κ k 8 q=κ q:=λq a=>az _ _ λe=>a (by rw[e];exact f);refine h.hJ (W:=[]) ⟨af _,λ_ _ _=>rfl,h.fit⟩ (λk g=>(by cases g)) (λq a=>d q Za) (λq a=>?_) (h.pm.move λq _ c=>⟨d q c.1,Z,(h.mw q c.1).sf⟩) Z Z Z Z Z (af _) h.tB
 by_cases e:q=k
 .subst e;exact c
 .rw[az _ _ e]at a;exact h.mw q a
abbrev PO(a s c d e f g h j:Int)(k:Bool):List nI:=[ci a,ci s,ci c,ci d,ci e,ci f,ci g,ci h,ci j,.v (Bo k)]
abbrev wA(P:Wp)(a s c d e f g h j:Int)(k:Bool):Mem:=[(0,0,.v (Po (J (O P.kb.bk 0 Q)))),(0,1,.v (Po (J (O P.B.b 0 Q)))),(0,2,.v (Sc (J (O P.wl 0 Q)) 2 P.cl)),(0,3,.v (Sc (J (O P.wm 0 Q)) 2 P.cm)),(0,4,.v (Po (J (O P.bb 0 Q)))),(1,0,ci a),(1,1,ci s),(1,2,ci c),(1,3,ci d),(1,4,ci e),(1,5,ci f),(1,6,ci g),(1,7,ci h),(1,8,ci j),(1,9,.v (Bo k))]
structure Pg (l:List ng) (L:Nat->Option Lv) (r:Nat) (Inb:Nat->Option eZ) (nG:Nat) (w:Wd) (κ:Nat->Nat) (P:Wp) (U:Nat->Nat->Option ng) (V:Nat->Nat->Vu) (N:Nat->Nat->Nat) (Xs:Nat->Nat->List Vu) (K:aa):Prop where
 co:Co P.kb l K L r Inb nG w
 nS:K.nS=P.n
 lm:∀i,i<2->oD P.kb l L w (P.lb i) P.n (P.B0 i) (U i) (V i) (N i) (Xs i)
 lc:∀i,i<2->κ (P.lb i).bl=300+100*i/\κ (P.lb i).bu=301+100*i/\κ (P.lb i).bn=302+100*i/\∀p g,p<P.n->(V i p).ownBlock=J g->κ g=310+100*i+p
 mw:∀k,κ k≠0->Mw P.kb l L w k
 one:∀i p j q o o',i<2->j<2->p<P.n->q<P.n->U i p=J o->U j q=J o'->o.gid=o'.gid->i=j/\p=q
 all:∀g v,L g=J v->∃i p,i<2/\p<P.n/\U i p=J v.C.o
 sz:2<=K.nF/\K.nF<=32/\K.nD<=4
 pos:0<nG
section
variable{n:Nat->Nat->Option ng}{f:Nat->Nat->Vu}{N:Nat->Nat->Nat}{s:Nat->Nat->List Vu}
theorem Pw.pg(h:Pw l L r Inb nG w κ P S K t):Pg l L r Inb nG w κ P S.U S.V S.N S.Xs K:=⟨h.co,h.nS,h.lm,h.lc,h.mw,h.one,h.all,h.sz,h.pos⟩
theorem Pg.hJ{W:List Nat}(h:Pg l L r Inb nG w κ P n f N s K)(F:nC (ep l) W w w')(v:∀k,k∈W->k<w.heap.size->Mw P.kb l L w k/\κ k<300)(z:∀k,300<=κ k->κ' k=κ k)(x:∀k,κ' k≠0->Mw P.kb l L w' k):Pg l L r Inb nG w' κ' P n f N s K:=by
 have d:∀k,300<=κ k->w'.heap[k]?=w.heap[k]?:=λk j=>by
  have m:=h.mw k Za;exact F.old k m.mn.lt λo=>by have:=(v k o m.mn.lt).2;omega
 refine⟨h.co.wrote F.size mX λk j y=>F.old k j λo=>y (v k o j).1,h.nS,λi e=>?_,λi e=>?_,x,h.one,h.all,h.sz,h.pos⟩
 .have a:=h.lm i e;have c:=h.lc i e;exact⟨⟨a.m.is.same (d _ (by rw[c.1];omega)) (d _ (by rw[c.2.1];omega)) (d _ (by rw[c.2.2.1];omega)) λp q g u=>d g (by rw[c.2.2.2 p g q u];omega),a.m.qt.grow F.size,a.m.qo.grow F.size,a.m.qU.grow F.size,λp q g u=>(a.m.qJ p q g u).grow F.size,a.m.b0⟩,a.live⟩
 .have c:=h.lc i e
  grind
theorem Pg.more{i:Nat}{c:Lv}{x:Nat->Option eZ}(h:Pg l L (r+1) Inb nG w κ P n f N s K)(T:i<2)(W:a<P.n)(G:n i a=J C.C.o)(M:L C.C.o.gid=J C)(y:c.C=C.C)(X:Co P.kb l B (ai L C.C.o.gid (J c)) r x nG w')(z:Kp P.kb L w (ai L C.C.o.gid (J c)) w')(m:B.nF=K.nF/\B.nS=K.nS/\B.nD=K.nD):Pg l (ai L C.C.o.gid (J c)) r x nG w' κ P n f N s B:=by
 refine⟨X,m.2.1.trans h.nS,λj p=>⟨(h.lm j p).m.turn z,λq E o F=>?_⟩,h.lc,λk hk=>(h.mw k hk).kp z,h.one,λg u v=>?_,by rw[m.1,m.2.2];exact h.sz,h.pos⟩
 .let⟨u,d,H,R⟩:=(h.lm j p).live q E o F
  by_cases e:o.gid=C.C.o.gid
  .obtain⟨rfl,rfl⟩:=h.one j q i a o C.C.o p T E W F G e;rw[e]at d ⊢;rw[M]at d;cases Ze d;exact⟨c,by rw[aH],by rw[y];exact H,by rw[y];exact R⟩
  .exact⟨u,by rw[az _ _ e];exact d,H,R⟩
 .by_cases e:g=C.C.o.gid
  .rw[e,aH]at v
   grind
  .rw[az _ _ e]at v;exact h.all g u v
theorem Pg.over{i c':Nat}{d':Nat->Option eZ}{xs:List Vu}(h:Pg l L (r+1) Inb nG w κ P n f N s K)(hi:i<2)(hp:a<P.n)(hU:n i a=J C.C.o)(hL:L C.C.o.gid=J C)(hg:∀k,Mn P.kb L w k->¬rJ (P.lb i) (f i) a k->k≠d)(co:Co P.kb l B (ai L C.C.o.gid Q) r d' nG w')(kp:∀k,Mn P.kb L w k->¬rJ (P.lb i) (f i) a k->Mn P.kb (ai L C.C.o.gid Q) w' k/\w'.heap[k]?=w.heap[k]?)(F:oD P.kb l (ai L C.C.o.gid Q) w' (P.lb i) P.n (P.B0 i) (pW (n i) a) (pN (f i) a (Sc (J (O d 0 Q)) (N i a+1) c')) (pN (N i) a (N i a+1)) (pN (s i) a xs))(hs:B.nF=K.nF/\B.nS=K.nS/\B.nD=K.nD) :
  ∃κ',Pg l (ai L C.C.o.gid Q) r d' nG w' κ' P (nM n i (pW (n i) a)) (nM f i (pN (f i) a (Sc (J (O d 0 Q)) (N i a+1) c'))) (nM N i (pN (N i) a (N i a+1))) (nM s i (pN (s i) a xs)) B/\∀k,Mn P.kb L w k->κ k<300->κ' k=κ k/\Mn P.kb (ai L C.C.o.gid Q) w' k/\w'.heap[k]?=w.heap[k]?:=by
 have G:=h.lc i hi;have ex:∀k,rJ (P.lb i) (f i) a k->κ k=301+100*i\/κ k=302+100*i\/κ k=310+100*i+a:=λk M=>by
  rcases M with rfl|rfl|M
  all_goals grind
 have H:∀k,κ k≠0->¬rJ (P.lb i) (f i) a k->Mw P.kb l (ai L C.C.o.gid Q) w' k/\w'.heap[k]?=w.heap[k]?/\k≠d:=λk h0 z=>by
  have m:=h.mw k h0;exact⟨⟨(kp k m.mn z).1,m.bk,m.oq,m.rc⟩,(kp k m.mn z).2,hg k m.mn z⟩
 generalize g':(λk=>if k=d then 310+100*i+a else if (f i a).ownBlock=J k then 0 else κ k)=κ';have e':κ' d=310+100*i+a:=by grind
 have X:∀k,k≠d->(f i a).ownBlock≠J k->κ' k=κ k:=λk h1 h2=>by
  grind
 have R:∀k,κ k≠0->¬rJ (P.lb i) (f i) a k->κ' k=κ k:=λk h0 z=>X k (H k h0 z).2.2 λe=>z (.inr (.inr e));have h':=(h.lm i hi).m.is.small;have gB:=(j8 (F.m.is.own a hp) (g:=d) (by simp[pN,Value.ownBlock])).1;have ne:=F.m.is.ne;refine⟨κ',⟨co,hs.2.1.trans h.nS,λj T=>?_,λj T=>?_,λk M=>?_,λE b c a' o o' ha hc hb hd h1 h2 he=>?_,λy u W=>?_,by rw[hs.1,hs.2.2];exact h.sz,h.pos⟩,λk hm h3=>?_⟩
 .by_cases e:j=i
  .subst e;simp only[nM,if_true];exact F
  .simp only[nM,mY e];have g:=h.lc j T;have lm:=h.lm j T;have no:∀ {k c},κ k=300+100*j+c->c<100->¬rJ (P.lb i) (f i) a k:=λ{k c} hc hl x=>by have:=ex k x;omega
   have I:=H _ (by rw[g.1];omega) (no (c:=0) g.1 Za);have ku:=H _ (by rw[g.2.1];omega) (no (c:=1) (by rw[g.2.1];omega) Za);have kn:=H _ (by rw[g.2.2.1];omega) (no (c:=2) (by rw[g.2.2.1];omega) Za);have kl:∀q,q<P.n->∀y,(f j q).ownBlock=J y->_:=λq p y v=>H y (by rw[g.2.2.2 q y p v];omega) (no (c:=10+q) (by rw[g.2.2.2 q y p v];omega) Za);refine⟨⟨lm.m.is.same I.2.1 ku.2.1 kn.2.1 λq p y v=>(kl q p y v).2.1,I.1,ku.1,kn.1,λq p y v=>(kl q p y v).1,lm.m.b0⟩,λq p o ho=>?_⟩;let⟨u,h1,h2,h3⟩:=lm.live q p o ho;exact⟨u,by rw[az _ _ λeg=>e (h.one j q i a o C.C.o T hi p hp ho hU eg).1];exact h1,h2,h3⟩
 .by_cases e:j=i
  .subst e;have nb:¬rJ (P.lb j) (f j) a (P.lb j).bl:=λx=>by grind
   refine⟨(R _ (by rw[G.1];omega) nb).trans G.1,(X _ Za λe=>by grind).trans G.2.1,(X _ Za λe=>by grind).trans G.2.2.1,λq y p v=>?_⟩;simp only[nM,if_true,pN]at v
   by_cases eq:q=a
   .subst eq;rw[mZ Z]at v;obtain rfl:d=y:=Ze v;exact e'
   grind
  .have g:=h.lc j T;have no:∀ {k c},κ k=300+100*j+c->c<100->¬rJ (P.lb i) (f i) a k:=λ{k c} hc hl x=>by have:=ex k x;omega
   simp only[nM,mY e];exact⟨(R _ (by rw[g.1];omega) (no (c:=0) g.1 Za)).trans g.1,(R _ (by rw[g.2.1];omega) (no (c:=1) (by rw[g.2.1];omega) Za)).trans g.2.1,(R _ (by rw[g.2.2.1];omega) (no (c:=2) (by rw[g.2.2.1];omega) Za)).trans g.2.2.1,λq y p v=>(R y (by rw[g.2.2.2 q y p v];omega) (no (c:=10+q) (by rw[g.2.2.2 q y p v];omega) Za)).trans (g.2.2.2 q y p v)⟩
 .by_cases e:k=d
  .subst e;exact F.m.qJ a hp k (by simp[pN,Value.ownBlock])
  .by_cases e2:(f i a).ownBlock=J k
   .grind
   .rw[X k e e2]at M
    by_cases x:rJ (P.lb i) (f i) a k
    .rcases x with rfl|rfl|x
     .exact F.m.qo
     .exact F.m.qU
     grind
    grind
 .have un:∀ {E b:Nat} {o:ng},nM n i (pW (n i) a) E b=J o->n E b=J o:=λ{E b o} hh=>by
   unfold nM pW at hh;split at hh
   all_goals grind
  exact h.one E b c a' o o' ha hc hb hd (un h1) (un h2) he
 .by_cases e:y=C.C.o.gid
  .rw[e,aH]at W;cases W
  .rw[az _ _ e]at W;let⟨E,b,ha,hb,b'⟩:=h.all y u W;refine⟨E,b,ha,hb,?_⟩;unfold nM pW;split
   .next e1 =>
    subst e1;dsimp only;split
    .next e2 =>
     subst e2;rw[hU]at b';exact absurd ((h.co.gid y u W).1.symm.trans (congrArg ng.gid (Ze b')).symm) e
    .exact b'
   .exact b'
 .have z:¬rJ (P.lb i) (f i) a k:=λx=>by have:=ex k x;omega
  grind
end
variable{v:Lv}{p:Nat}
section
variable{t:py}
theorem Tie.next(h:Tie v p t)(K:aa):v.C.kd=t.kd/\v.C.A=t.A/\v.C.B=t.nK/\(1<=t.kd/\t.kd<=7)/\(v.S K=λm=>m7 v.C p (t.K0 K) (t.Ls++m))/\xT (m7 v.C p (t.K0 K)) t.Ls/\pz t.Ls/\∃o a b c,m7 v.C p (t.K0 K) t.Ls=.call o a b c:=by
 cases t with
 | fresh z A B =>
  let⟨d,f,j,k,g⟩:=h;exact⟨d,f,j,g,by rw[k];rfl,λd x e f h=>(by simp[py.Ls]at h),λx q=>(by cases q),Ry (by rw[d];exact g)⟩
 | begun T =>
  let⟨d,f,j,k,g,s,u,y,_⟩:=h;exact⟨d,f,j,g,by rw[k];rfl,s,u,y⟩
theorem ZY(h:Tie v p t)(G:v.C.slot=p)(K:aa):∃d a b c,qR (t.K0 K) p t.kd t.A t.nK false t.Ls=.inl (.call d a b c)/\(0<=d/\d<100)/\pz t.Ls/\(v.turn K).1=(i5 K p d a b c).K /\
  (((∃e f g j,(v.turn K).2 []=.call e f g j)/\rH (t.K0 K) p t.kd t.A t.nK (t.Ls++[((i5 K p d a b c).n,(i5 K p d a b c).e)]) (i5 K p d a b c).e=Q/\∀(k:Lv) (T:Tk),k.C=v.C->(k.S=λ_=>(v.turn K).2)->T.K=t.K0 K->T.kd=t.kd->T.A=t.A->T.B=t.nK->T.Ls=t.Ls++[((i5 K p d a b c).n,(i5 K p d a b c).e)]->p<T.K.nS->Tie k p (.begun T)) \/
   ∃m o,(v.turn K).2 []=.done m o/\rH (t.K0 K) p t.kd t.A t.nK (t.Ls++[((i5 K p d a b c).n,(i5 K p d a b c).e)]) (i5 K p d a b c).e=J (m,o)):=by
 let⟨q,x,y,z,M,X,B,d,a,b,c,hc⟩:=h.next K;let⟨C,s2,s3,E⟩:=Qy (K:=K) (by rw[q];exact z) X B hc;rw[q,x,y]at C E;have h0:v.S K []=.call d a b c:=by grind
 have F:v.turn K=((i5 K p d a b c).K,(v.S K).after (i5 K p d a b c).n (i5 K p d a b c).e):=by
  show sD v.C.slot (v.S K) K=_;rw[Fi h0,G]
 have h2:(v.turn K).2=λs=>m7 v.C p (t.K0 K) ((t.Ls++[((i5 K p d a b c).n,(i5 K p d a b c).e)])++s):=by
  rw[F,M];funext s;show m7 v.C p (t.K0 K) (t.Ls++(_::s))=_
  grind
 have d':(v.turn K).2 []=m7 v.C p (t.K0 K) (t.Ls++[((i5 K p d a b c).n,(i5 K p d a b c).e)]):=by grind
 refine⟨d,a,b,c,C,s2,B,by rw[F],?_⟩;rcases E with⟨e,f,g,j,H,R,q3⟩|⟨m,o,H,R⟩
 .refine .inl ⟨⟨e,f,g,j,d'.trans H⟩,q3,λk T u e' k1 W k3 k4 k5 k6=>?_⟩;refine⟨by rw[u,q,W],by rw[u,x,k3],by rw[u,y,k4],?_,by rw[W];exact z,by grind,by rw[k5];exact R,⟨e,f,g,j,by grind⟩,k6⟩
  grind
 grind
end
variable{κ1:Nat->Nat}{w1 w2:Wd}{K':aa}{d':Nat->Option eZ}
section
variable{d:py}
theorem Pw.Cm(h:Pw l L (r+1) Inb nG w κ P S K t)(c:∀k,κ k≠0->κ k<300->κ1 k=κ k/\w1.heap[k]?=w.heap[k]?):Pm (ep l) κ1 w1 P S K:=h.pm.move λk e a=>⟨(c k a.1 a.2).1,(c k a.1 a.2).2,(h.mw k a.1).sf⟩
theorem vr{a:Type}(f:Nat->a)(p:Nat)(x:a):nM f p x p=x:=mZ Z
theorem wK{c:Type}{f:Nat->c}{p:Nat}{x:c}(h:a≠p):nM f p x a=f a:=mY h
theorem KH{a:Type}(f:Nat->a)(p:Nat):nM f p (f p)=f:=by
 funext q;unfold nM
 grind
theorem Pg.turn{κ':Nat->Nat}{U:Nat->Nat->Option ng}{V:Nat->Nat->Vu}{N:Nat->Nat->Nat}{Xs:Nat->Nat->List Vu}(g:Pg l L r Inb nG w1 κ P U V N Xs K)(j:i<2)(m:p<6)(F:nC (ep l) (oN κ w1.heap.size (pe i p)) w1 w2)(f:∀k,k<w1.heap.size->κ' k=κ k)(h:∀k,w1.heap.size<=k->κ' k=0\/k<w2.heap.size/\oW i (κ' k)):Pg l L r Inb nG w2 κ' P U V N Xs K:=by
 refine g.hJ F (λk a c=>?_) (λk a=>f k (g.mw k Za).mn.lt) λk a=>?_
 .have:=rS.1 (A6.1 a).2;unfold cB at this;exact⟨g.mw k Za,by omega⟩
 .rcases bQ k w1.heap.size with c|c
  .exact(g.mw k (by grind)).grow F.size
  .rcases h k c with e|e
   .exact absurd e a
   .exact g.co.new c e.1
theorem Pm.turn{κ':Nat->Nat}{m:Rk}{C:Nat->Option py}{E:Nat->Vu}{H:Nat->List Vu}{U':Nat->Nat->Option ng}{V':Nat->Nat->Vu}(h:Pm (ep l) κ w1 P S K)(hi:i<2)(a':p<6)(F:nC (ep l) (oN κ w1.heap.size (pe i p)) w1 w2)(s:∀k,k<w1.heap.size->κ' k=κ k)(T:pt (ep l) w2 P.B m)(W:Rel K' m)(G:rC K')(nD:m.nD=S.rr.nD)(M:oh (ep l) κ' i w2 (P.rb i) P.B.b P.n C E x H):Pm (ep l) κ' w2 P { S with ts:=nM S.ts i C,D:=nM S.D i E,N:=nM S.N i x,Xs:=nM S.Xs i H,rr:=m,U:=U',V:=V' } K':=by
 have z:∀k,k<w1.heap.size->¬(κ k=1\/oW i (κ k))->w2.heap[k]?=w1.heap[k]?:=λk X hn=>F.old k X λhm=>hn (by
  have:=rS.1 (A6.1 hm).2;rcases this with e|e|e|e|e|e
  .exact .inl e
  all_goals exact .inr (by rw[e];exact rD Za))
 have a:∀ {k c o},F7 (ep l) w1 k/\κ k=c->c≠1->c<100->w2.cell? (O k o Q)=w1.cell? (O k o Q)/\F7 (ep l) w2 k/\κ' k=c:=λ{k c o} q B R=>by
  have e:=z k q.1.lt (by rw[q.2];unfold oW;omega);exact⟨Zf (w:=w1) e,q.1.of e,(s k q.1.lt).trans q.2⟩
 refine⟨T,λj f=>?_,⟨W,G⟩,λj f=>?_,h.bk.same (λg u y=>s g (h.bk.blk g u y).2.lt) λg u y=>z g (h.bk.blk g u y).2.lt (by rw[(h.bk.blk g u y).1];unfold oW;omega),(a h.rw Zb Zb).1.trans h.w0,(a h.rw Zb Zb).1.trans h.w1,(a h.rw Zb Zb).1.trans h.w2,(a h.rw Zb Zb).1.trans h.w3,(a h.rw Zb Zb).1.trans h.w4,λj f=>⟨(a h.r4 Zb Zb).1.trans (h.l j f).1,(a h.r5 Zb Zb).1.trans (h.l j f).2⟩,(a (o:=0) h.rw Zb Zb).2,(a (o:=0) h.r4 Zb Zb).2,(a (o:=0) h.r5 Zb Zb).2⟩
 .have f:P.B.is S.rr j:=by unfold RB.is at f ⊢;grind
  exact(s j (h.R.lt f)).trans (h.Rc j f)
 .by_cases e:j=i
  .subst e;simp only[vr];exact M
  .simp only[wK e];exact(h.rl j f).same λk B R=>⟨s k B,z k B (by unfold oW at R ⊢;omega)⟩
theorem Pw.more{b:Int}(h:Pw l L (r+1) Inb nG w κ P S K t)(y:i<2)(hp:p<P.n)(G:S.U i p=J v.C.o)(hL:L v.C.o.gid=J v)(j':v.C.slot=p)(b':S.ts i p=J d)(M:C.C=v.C)(tie:∀T:Tk,T.K=d.K0 K->T.kd=d.kd->T.A=d.A->T.B=d.nK->T.Ls=d.Ls++[((i5 K p e f b g).n,(i5 K p e f b g).e)]->p<T.K.nS->Tie C p (.begun T))(k':p<(d.K0 K).nS)(a':Pg l (ai L v.C.o.gid (J C)) r d' nG w1 κ P S.U S.V S.N S.Xs (i5 K p e f b g).K)(X:Kp P.kb L w (ai L v.C.o.gid (J C)) w1)(ho:rH (d.K0 K) p d.kd d.A d.nK (d.Ls++[((i5 K p e f b g).n,(i5 K p e f b g).e)]) (i5 K p e f b g).e=Q)(hP:zF (ep l) κ i w1 (P.rb i) P.B S.rr P.n (S.ts i) (S.D i) (S.N i) (S.Xs i) p d.kd d.A d.nK (d.K0 K) d.Ls (i5 K p e f b g) q w2):q=.tuple #[Bo false,vi 0]/\∃κ' S',Pw l (ai L v.C.o.gid (J C)) r d' nG w2 κ' P S' (i5 K p e f b g).K (t+1)/\F3 P.kb L κ w (ai L v.C.o.gid (J C)) κ' w2:=by
 let⟨F,κ',r',B,nk,R',e',f',x⟩:=hP;rw[ho]at x;let⟨hx,T,g',k1,k2,k3,k4,k5⟩:=x;have n6:=(h.pm.rl i y).n6;have h':=h.Cm (κ1:=κ) λk h0 _=>⟨Z,(X k (h.mw k h0).mn).2⟩
 have i':=h'.turn (U':=S.U) (V':=S.V) y Za F B R' e' (yQ h.pm.rX.i p e f b g) f' g';have c:=a'.turn y Za F B nk;refine⟨hx,κ',_,⟨?_,?_,?_,?_,?_,i',?_,?_,?_,?_,?_,?_,?_,?_,?_⟩,?_⟩
 all_goals try simp only[KH]
 .exact c.co
 .exact c.nS
 .exact c.lm
 .exact c.lc
 .exact c.mw
 .intro j a m o
  by_cases s:j=i/\a=p
  .obtain⟨rfl,rfl⟩:=s;refine .inr ⟨C,.begun T,by rw[M];exact G,by rw[M,aH],by grind,by simp[nM,pd],tie T k1 k2 k3 k4 k5 (by grind)⟩
  .have E:nM S.ts i (pd (S.ts i) p (J (.begun T))) j a=S.ts j a:=by
    unfold nM pd;split
    all_goals grind
   rw[E];rcases h.tie j a m o with⟨z,H⟩|⟨u,t',z,H,a3,a4,a5⟩
   .exact .inl ⟨z,H⟩
   .exact .inr ⟨u,t',z,by rw[az _ _ λeg=>s (h.one j a i p _ _ m y o hp z G eg)];exact H,a3,a4,a5⟩
 .exact c.one
 .exact c.all
 .exact c.sz
 .exact c.pos
 .exact λj a m o=>Zh (h.tN j a m o) Za
 .intro j a T' m o s
  by_cases R:j=i/\a=p
  .obtain⟨rfl,rfl⟩:=R;simp only[nM,pd,if_true]at s;cases py.begun.inj (Ze s);rw[k5,List.length_append];have:d.Ls.length<=t:=by
    cases d with
    | fresh _ _ _=>exact aW _
    | begun T0=>exact h.tL j a T0 m o b'
   grind
  .have E:nM S.ts i (pd (S.ts i) p (J (.begun T))) j a=S.ts j a:=by
    unfold nM pd;split
    all_goals grind
   rw[E]at s;exact Zh (h.tL j a T' m o s) Za
 .exact λg hc=>Zh (h.tB g hc) Za
 .exact h.xi
 .intro k x l';let⟨W,R⟩:=X k x;refine⟨B k W.lt,W.grow F.size,(F.old k W.lt λx=>?_).trans R⟩;have:=rS.1 (A6.1 x).2;unfold cB at this;omega
theorem Pw.ends{b W:Int}(o:Pw l L (r+1) Inb nG w κ P S K t)(H:i<2)(G:p<P.n)(hU:S.U i p=J v.C.o)(h':S.ts i p=J d)(M:v.C.kd=d.kd/\v.C.A=d.A/\v.C.B=d.nK)(pg:Pg l (ai L v.C.o.gid Q) r d' nG w1 κ1 P (nM S.U i (pW (S.U i) p)) (nM S.V i (pN (S.V i) p (Sc (J (O a 0 Q)) (S.N i p+1) c))) (nM S.N i (pN (S.N i) p (S.N i p+1))) (nM S.Xs i (pN (S.Xs i) p (S.Xs i p++oG v.C.kd v.C.A v.C.B W h))) (i5 K p e f b g).K)(X:∀k,Mn P.kb L w k->κ k<300->κ1 k=κ k/\Mn P.kb (ai L v.C.o.gid Q) w1 k/\w1.heap[k]?=w.heap[k]?)(ho:rH (d.K0 K) p d.kd d.A d.nK (d.Ls++[((i5 K p e f b g).n,(i5 K p e f b g).e)]) (i5 K p e f b g).e=J (h,W))(hP:zF (ep l) κ1 i w1 (P.rb i) P.B S.rr P.n (S.ts i) (S.D i) (S.N i) (S.Xs i) p d.kd d.A d.nK (d.K0 K) d.Ls (i5 K p e f b g) q w2):q=.tuple #[Bo true,vi 0]/\∃κ' S',Pw l (ai L v.C.o.gid Q) r d' nG w2 κ' P S' (i5 K p e f b g).K (t+1)/\F3 P.kb L κ w (ai L v.C.o.gid Q) κ' w2:=by
 let⟨F,κ',r',kk,nk,R',b',c',E⟩:=hP;rw[ho]at E;let⟨hx,V2,e'⟩:=E;have n6:=(o.pm.rl i H).n6;have f':=o.Cm λk h0 h3=>⟨(X k (o.mw k h0).mn h3).1,(X k (o.mw k h0).mn h3).2.2⟩
 have g':=f'.turn (U':=nM S.U i (pW (S.U i) p)) (V':=nM S.V i (pN (S.V i) p (Sc (J (O a 0 Q)) (S.N i p+1) c))) H Za F kk R' b' (yQ o.pm.rX.i p e f b g) c' e';have z:=pg.turn H Za F kk nk;rw[M.1,M.2.1,M.2.2]at z;have et:∀j m,¬(j=i/\m=p)->nM S.ts i (pd (S.ts i) p Q) j m=S.ts j m/\nM S.U i (pW (S.U i) p) j m=S.U j m:=λj m s=>by
  unfold nM pd pW
  by_cases R:j=i
  all_goals simp_all
 refine⟨hx,κ',_,⟨z.co,z.nS,z.lm,z.lc,z.mw,g',?_,z.one,z.all,z.sz,z.pos,?_,?_,λg hc=>Zh (o.tB g hc) Za,?_⟩,?_⟩
 .intro j m B C;show(nM S.U i (pW (S.U i) p) j m=Q/\nM S.ts i (pd (S.ts i) p Q) j m=Q)\/∃(u:Lv) (t':py),nM S.U i (pW (S.U i) p) j m=J u.C.o/\_/\_/\nM S.ts i (pd (S.ts i) p Q) j m=J t'/\_
  by_cases s:j=i/\m=p
  .obtain⟨rfl,rfl⟩:=s;exact .inl ⟨by simp[nM,pW],by simp[nM,pd]⟩
  .rw[(et j m s).1,(et j m s).2];rcases o.tie j m B C with⟨T,a2⟩|⟨u,t',T,a2,a3,a4,a5⟩
   .exact .inl ⟨T,a2⟩
   .exact .inr ⟨u,t',T,by rw[az _ _ λeg=>s (o.one j m i p _ _ B H C G T hU eg)];exact a2,a3,a4,a5⟩
 .intro j m B C;show nM S.N i (nM (S.N i) p (S.N i p+1)) j m<=t+1;have:=o.tN j m B C;have:=o.tN i p H G;unfold nM;split
  all_goals grind
 .intro j m T' B C s;have s:nM S.ts i (pd (S.ts i) p Q) j m=J (.begun T'):=s
  by_cases R:j=i/\m=p
  .obtain⟨rfl,rfl⟩:=R;simp[nM,pd]at s
  .rw[(et j m R).1]at s;exact Zh (o.tL j m T' B C s) Za
 .intro j m y B C x;have x:y∈nM S.Xs i (nM (S.Xs i) p (S.Xs i p++oG d.kd d.A d.nK W h)) j m:=x;unfold nM at x;split at x
  .next s =>
   subst s;dsimp only at x;split at x
   .rcases bZ.1 x with x|x
    .exact o.xi j p y B G x
    .simp only[oG,ae,aj,or_false]at x
     grind
   .exact o.xi j m y B C x
  .exact o.xi j m y B C x
 .intro k E i';let⟨R,m1,e2⟩:=X k E Za;refine⟨(kk k m1.lt).trans R,m1.grow F.size,(F.old k m1.lt λE=>?_).trans e2⟩;have:=rS.1 (A6.1 E).2
  grind
end
def aK3:List bh:=match Tryz.f9.body with
 | some (.seq _ (.seq _ (.seq _ (.seq _ (.seq _ (.seq (.seq _ (.block b (.seq _ (.cond _ _ (.seq _ (.cond _ x _)))))) e))))))=>[.code x,.inBlock b,.code e]
 | _=>[]
def Rr:List bh:=match Tryz.f9.body with
 | some (.seq _ (.seq _ (.seq _ (.seq _ (.seq _ (.seq (.seq _ (.block b (.seq _ (.cond _ _ (.seq _ (.cond _ (.seq _ (.seq r x)) _)))))) e))))))=>[.code r,.code x,.inBlock b,.code e]
 | _=>[]
variable{b3:Nat}{s:Int}{bo:Bool}{e0:Int}{Stop:Gr->Wd->Prop}{fr:Fm'}{cs:List Fm'}{a:cZ}{Q:Wd->Prop}{f':gW->lT->Prop}{Mid:List ng->(Nat->Option eZ)->Nat->Wd->Prop}
theorem WI(hi:i<2)(X:P.wm<w.heap.size)(hl:w.cell? (O P.wm i G')=J (Po (J (O ((P.rb i).bl) 0 G'))))(ne:P.bw≠P.wm/\b3≠P.wm)(M:fx sft [] 2 w [(P.bw,0),(b3,0)] [(0,3,.v (Sc (J (O P.wm 0 G')) 2 P.cm)),(1,1,ci s)] 160 [(0,.c (.p 0 0)),(3,.c (.p 1 0)),(9,.c (ci i)),(12,.c (.v (Bo bo))),(13,.c (ci e0))] a w)(c':oL true sft 22 #[Po (J (O ((P.rb i).bl) 0 G')),vi s] w λx w2=>x=.tuple #[Bo bo,vi e0]/\Fit sft w2/\(∀k,w2.heap.size<=k->sft k=0)/\w2.heap[P.bw]?=w.heap[P.bw]?/\w2.heap[b3]?=w.heap[b3]?/\w2.heap[P.wm]?=w.heap[P.wm]?/\Q w2)(e':∀w2 w',Q w2->nC sft [] w2 w'->iv J' true true sft Stop (G (fr.finish (Bo true)) cs) w'):iv J' true true sft Stop (G ((base 9).at a Rr) (fr::cs)) w:=by
 have z:=M.oZ (W':=(aO w.heap.size).filter λk=>!aG k P.wm) Zc;have nW:P.wm∉(aO w.heap.size).filter λk=>!aG k P.wm:=λhm=>by
  have:=(dx.1 hm).2;simp at this
 refine BV [(9,J (.t [.c (.v (Bo bo)),.c (ci e0)]))] [[Po (J (O ((P.rb i).bl) 0 G'))]] false (λd g h' w' f=>h'=[(P.bw,0),(b3,0)]/\f=(sft,Stop)/\((d=0/\w'=w)\/(d=1/\Fit sft w'/\(∀k,w'.heap.size<=k->sft k=0)/\w'.heap[P.bw]?=w.heap[P.bw]?/\w'.heap[b3]?=w.heap[b3]?/\w'.heap[P.wm]?=w.heap[P.wm]?/\Q w'))) z Z (λ_=>rfl) (λ_=>rfl) Z Zd ⟨⟨mX,by omega⟩,⟨X,nW,by simpa using hl⟩⟩ (λd g B w' f _ c=>?_) ⟨Z,Z,.inl ⟨Z,Z⟩⟩ (λd j' g' C g o a' w' B l' f E c h1 h2 F H=>?_) λg B a3 w3 f c i' k'=>?_
 .obtain⟨e,rfl,c⟩:=c;cases Zk e;rcases c with⟨_,rfl⟩|⟨_,_,_,j,m,u3,_⟩
  .exact⟨z.ce,λ_ _ _=>rfl⟩
  .refine⟨λe u=>?_,λk hk H=>?_⟩
   .let⟨c1,c2,c3⟩:=M.ce e u;refine⟨c1,c2,(Zf (w:=w) ?_).trans c3⟩;simp only[ae,aj,or_false]at u;rcases u with rfl|rfl
    .exact j
    .exact m
   simp_all
 .obtain⟨e,rfl,c⟩:=c;cases Zk e
  cases d with
  | succ d=>simp at C
  | zero =>
   obtain⟨rfl,rfl⟩:=ax (Ze C);rcases c with⟨_,rfl⟩|⟨y,_⟩
   case inr=>cases y
   cases Ze E;refine Cd c' E Z Z iw Z Z ?_ λx w' hq=>?_
   .simp only[dq,cX,eE,F (.tmp 121) (.c (.v (Po (J (O ((P.rb i).bl) 0 G'))))) Z,F (.tmp 123) (.c (ci s)) Z];rfl
   .obtain⟨rfl,q⟩:=hq;exact H (sft,Stop) [] w' (J (.t [.c (.v (Bo bo)),.c (ci e0)])) ⟨by simp,Z,.inr ⟨Z,q⟩⟩ (.inr Z) (λsv h=>by cases Ze h;intro x R;simp only[ae,aj,or_false]at R;rcases R with rfl|rfl<;>trivial)
 .obtain⟨e,rfl,c⟩:=c;cases Zk e;rcases c with⟨y,_⟩|⟨_,j,m,_,_,_,hQ⟩
  .cases y
  have M3:=(M.re i' k').nQ [12,13,14,15] Z j m;have ee:(e0==e0)=true:=by simp
  cases bo
  all_goals
   refine ia 200 0 [] M3 Z Z mX λa4 T W=>A9 W dO Z Z Z ?_;show iv J' true true sft Stop (G (fr.finish (Bo (e0==e0))) cs) T;rw[ee];exact e' w3 T hQ W.hJ
def AB:List bh:=match Tryz.f9.body with
 | some (.seq _ (.seq _ (.seq _ (.seq _ (.seq _ (.seq (.seq _ (.block b (.seq _ (.cond _ _ (.seq _ (.cond _ (.seq r x) _)))))) e))))))=>[.code r,.code x,.inBlock b,.code e]
 | _=>[]
def PC:List bh:=match Tryz.f9.body with
 | some (.seq _ (.seq _ (.seq _ (.seq _ (.seq _ (.seq (.seq _ (.block b (.seq _ (.cond _ _ (.seq _ (.cond _ (.seq r x) _)))))) e))))))=>[.code x,.inBlock b,.code e]
 | _=>[]
theorem Hc(hi:i<2)(e':P.wl<w.heap.size)(hl:w.cell? (O P.wl i G')=J (Po (J (O ((P.lb i).bl) 0 G'))))(M:fx (ep l) [] 2 w [(P.bw,0),(b3,0)] [(0,2,.v (Sc (J (O P.wl 0 G')) 2 P.cl)),(1,1,ci s)] 160 [(0,.c (.p 0 0)),(3,.c (.p 1 0)),(9,.c (ci i))] a w)(h':∀F H,(∀c d' f w',Mid c d' f w'->X J' f' c d' f 0 (G (F.finish (.tuple #[Bo bo,vi e0])) H) w')->∀d,X J' f' l Inb nG 0 (G (ay J' 21 #[Po (J (O ((P.lb i).bl) 0 G')),vi s] .normal) (F::H)) (w.at d))(hM:∀c d' f w',Mid c d' f w'->w'.heap[P.bw]?=w.heap[P.bw]?/\w'.heap[b3]?=w.heap[b3]?/\w'.heap[P.wl]?=w.heap[P.wl]?)(u:∀c d' f w' y,Mid c d' f w'->pK 160 (qh [(P.bw,0),(b3,0)] [(0,.c (.p 0 0)),(3,.c (.p 1 0)),(9,.c (ci i)),(12,.c (.v (Bo bo))),(13,.c (ci e0))]) y->iv J' true true (ep c) (X J' f' c d' f 0) (G ((base 9).at y PC) (fr::cs)) w'):iv J' true true (ep l) (X J' f' l Inb nG 0) (G ((base 9).at a AB) (fr::cs)) w:=by
 have R:=M.oZ (W':=(aO w.heap.size).filter λk=>!aG k P.wl) Zc;have nW:P.wl∉(aO w.heap.size).filter λk=>!aG k P.wl:=λj=>by
  have:=(dx.1 j).2;simp at this
 refine BV [(9,J (.t [.c (.v (Bo bo)),.c (ci e0)]))] [[Po (J (O ((P.lb i).bl) 0 G'))]] false (λm z i' w' q=>i'=[(P.bw,0),(b3,0)]/\((m=0/\w'=w/\q=(ep l,X J' f' l Inb nG 0))\/(m=1/\∃c d' f,q=(ep c,X J' f' c d' f 0)/\Mid c d' f w'))) R Z (λ_=>rfl) (λ_=>rfl) Z Zd ⟨⟨mX,by omega⟩,⟨e',nW,by simpa using hl⟩⟩ (λm z T w' q _ g=>?_) ⟨Z,.inl ⟨Z,Z,Z⟩⟩ (λm j' g' W z o y w' T n' q B g h1 h2 rd hn=>?_) λz T a3 w3 q g k' m'=>?_
 .obtain⟨e,g⟩:=g;obtain rfl:=Zk e;rcases g with⟨_,rfl,_⟩|⟨_,c,d',f,_,j⟩
  .exact⟨R.ce,λ_ _ _=>rfl⟩
  .obtain⟨u1,u2,u3⟩:=hM _ _ _ _ j;refine⟨λe C=>?_,λk hk hn=>?_⟩
   .obtain⟨c1,c2,c3⟩:=M.ce e C;refine⟨c1,c2,(Zf (w:=w) ?_).trans c3⟩;simp only[ae,aj,or_false]at C;rcases C with rfl|rfl
    .exact u1
    .exact u2
   simp_all
 .obtain⟨e,g⟩:=g;obtain rfl:=Zk e
  cases m with
  | succ m=>simp at W
  | zero =>
   obtain⟨rfl,rfl⟩:=ax (Ze W);rcases g with⟨_,rfl,rfl⟩|⟨E,_⟩
   case inr=>cases E
   obtain rfl:=Ze B;refine MD B Z (by show aV≠.early;decide) Z iy Z Z (vs:=#[Po (J (O ((P.lb i).bl) 0 G')),vi s]) ?_ λd=>h' _ _ (λc d' f w2 j=>?_) d
   .simp only[dq,cX,eE,rd (.tmp 108) (.c (.v (Po (J (O ((P.lb i).bl) 0 G'))))) Z,rd (.tmp 110) (.c (ci s)) Z];rfl
   .rw[yp B];exact tF (hn (ep c,X J' f' c d' f 0) [] w2 (J (.t [.c (.v (Bo bo)),.c (ci e0)])) ⟨by simp,.inr ⟨Z,c,d',f,Z,j⟩⟩ (.inr Z) (λsv h=>by obtain rfl:=Ze h;intro x u;simp only[ae,aj,or_false]at u;rcases u with rfl|rfl<;>trivial))
 .obtain⟨e,g⟩:=g;obtain rfl:=Zk e;rcases g with⟨E,_⟩|⟨_,c,d',f,rfl,j⟩
  .cases E
  refine u c d' f w3 a3 j ?_;have:=((M.re k' m').oo 2 [0,3,9,12,13] Z Z).lv;exact this
theorem HP{κ1:Nat->Nat}{S:Ws}{K:aa}(c:Pm sft κ1 w P S K)(y:Fit sft w)(B:∀k,w.heap.size<=k->sft k=0)(h:κ1 b3=8)(C:F7 sft w b3)(E:w.cell? (O b3 1 G')=J (vi s))(m:i<2)(F:pK 160 (qh [(P.bw,0),(b3,0)] [(0,.c (.p 0 0)),(3,.c (.p 1 0)),(9,.c (ci i)),(12,.c (.v (Bo bo))),(13,.c (ci e0))]) a)(H:∀w',nC sft [] w w'->oL true sft 22 #[Po (J (O ((P.rb i).bl) 0 G')),vi s] w' λx w2=>x=.tuple #[Bo bo,vi e0]/\Fit sft w2/\(∀k,w2.heap.size<=k->sft k=0)/\w2.heap[P.bw]?=w'.heap[P.bw]?/\w2.heap[b3]?=w'.heap[b3]?/\w2.heap[P.wm]?=w'.heap[P.wm]?/\Q w2)(R:∀w2 w',Q w2->nC sft [] w2 w'->iv J' true true sft Stop (G (fr.finish (Bo true)) cs) w'):iv J' true true sft Stop (G ((base 9).at a PC) (fr::cs)) w:=by
 have o:P.bw≠b3:=λe=>by have:=c.rw.2;grind
 have M:fx sft [] 2 w [(P.bw,0),(b3,0)] [(0,3,.v (Sc (J (O P.wm 0 G')) 2 P.cm)),(1,1,ci s)] 160 [(0,.c (.p 0 0)),(3,.c (.p 1 0)),(9,.c (ci i)),(12,.c (.v (Bo bo))),(13,.c (ci e0))] a w:=by
  refine⟨F,λe u=>?_,λq d=>?_,λj f=>?_,λj q f d X=>?_,λj h1 h2=>?_,af _,λ_ _ _=>rfl,y,B⟩
  .simp only[ae,aj,or_false]at u;rcases u with rfl|rfl
   .exact⟨by simp,mX,c.w3⟩
   .exact⟨by simp,mX,E⟩
  .simp only[ae,aj,or_false]at d;rcases d with rfl|rfl|rfl|rfl|rfl
   .show 0<2;decide
   .show 1<2;decide
   .trivial
   .trivial
   .trivial
  .have f:j<2:=f;obtain rfl|rfl:j=0\/j=1:=by omega
   .exact c.rw.1
   .exact C
  .have f:j<2:=f;have d:q<2:=d;obtain rfl|rfl:j=0\/j=1:=by omega
   .obtain rfl:q=1:=by omega
    exact o
   .obtain rfl:q=0:=by omega
    exact aA o
  grind
 refine ia 1 2 [] M Z Z mX λa1 w1 g=>?_;have T:∀k,k<w.heap.size->w1.heap[k]?=w.heap[k]?:=λk W=>g.old k W Zc;have z:=g.size;refine WI m (by have:=c.r5.1.lt;omega) ((Zf (w:=w) (a:=(O P.wm i G')) (T _ c.r5.1.lt)).trans (c.l i m).2) ⟨λe=>(by have:=c.rw.2;rw[e,c.r5.2]at this;cases this),λe=>(by rw[e,c.r5.2]at h;cases h)⟩ g.nm (H w1 g.hJ) R
theorem F3.refl(I:Kb)(L:Nat->Option Lv)(κ:Nat->Nat)(w:Wd):F3 I L κ w L κ w:=λk h _=>⟨Z,h,Z⟩
theorem F3.hJ{I:Kb}{L:Nat->Option Lv}{κ':Nat->Nat}{w2:Wd}{sft:Nat->Nat}(k:F3 I L κ w E κ' w')(F:nC sft [] w' w2):F3 I L κ w E κ' w2:=λq d e=>by
 let⟨a,b,c⟩:=k q d e;exact⟨a,b.grow F.size,(F.old q b.lt Zc).trans c⟩
theorem Pn{e0:Int}(h:Pw l L (r+1) Inb nG w κ P S K t)(T:κ b3=8)(o:F7 (ep l) w b3)(W:w.cell? (O b3 1 G')=J (vi s))(B:i<2)(M:fx (ep l) [] 2 w [(P.bw,0),(b3,0)] [(0,2,.v (Sc (J (O P.wl 0 G')) 2 P.cl)),(1,1,ci s)] 160 [(0,.c (.p 0 0)),(3,.c (.p 1 0)),(9,.c (ci i))] a w)(b':∀u y,(∀w',Grown w w'->X J' f' l Inb nG 0 (G (u.finish (.tuple #[Bo false,vi e0])) y) w')->∀d,X J' f' l Inb nG 0 (G (ay J' 21 #[Po (J (O ((P.lb i).bl) 0 G')),vi s] .normal) (u::y)) (w.at d))(c':∀w',Pw l L r Inb nG w' κ P S K t->oL true (ep l) 22 #[Po (J (O ((P.rb i).bl) 0 G')),vi s] w' λx w2=>x=.tuple #[Bo false,vi e0]/\nC (ep l) [] w' w2)(e':∀w2,Pw l L r Inb nG w2 κ P S K (t+1)->F3 P.kb L κ w L κ w2->iv J' true true (ep l) (X J' f' l Inb nG 0) (G (fr.finish (Bo true)) cs) w2):iv J' true true (ep l) (X J' f' l Inb nG 0) (G ((base 9).at a AB) (fr::cs)) w:=by
 have f:=h.pm;refine Hc (Mid:=λq d' C w'=>q=l/\d'=Inb/\C=nG/\Grown w w') B f.r4.1.lt (f.l i B).1 M (λu y e d=>b' u y (λw' g=>e l Inb nG w' ⟨Z,Z,Z,g⟩) d) (λq d' C w' j=>?_) λq d' C w' a' j lv=>?_
 .let⟨_,_,_,g⟩:=j;exact⟨g.old _ f.rw.1.lt,g.old _ o.lt,g.old _ f.r4.1.lt⟩
 .obtain⟨rfl,rfl,rfl,g⟩:=j;have m:=(h.grown (g.hJ h.co)).less;have z:=g.size;refine HP (κ1:=κ) (Q:=λw2=>nC (ep q) [] w' w2) m.pm m.fit m.co.soft T (o.of (g.old _ o.lt)) ((Zf (w:=w) (a:=(O b3 1 G')) (g.old _ o.lt)).trans W) B lv (λw1 F=>?_) λw2 H E F=>?_
  .intro Stop fr cs hx;refine c' w1 (m.grown F) Stop fr cs λx w2 c=>hx x w2 ⟨c.1,c.2.fit,((m.grown F).grown c.2).co.soft,?_,?_,?_,?_⟩
   .exact c.2.old _ (by have:=f.rw.1.lt;have:=F.size;omega) Zc
   .exact c.2.old _ (by have:=o.lt;have:=F.size;omega) Zc
   .exact c.2.old _ (by have:=f.r5.1.lt;have:=F.size;omega) Zc
   .exact⟨Zh F.size c.2.size,λk e _=>(c.2.old k (Zg e F.size) Zc).trans (F.old k e Zc),c.2.fit⟩
  .have R:nC (ep q) [] w' H:=⟨Zh E.size F.size,λk e _=>(F.old k (Zg e E.size) Zc).trans (E.old k e Zc),F.fit⟩;exact e' H ((m.grown R).later Za) (F3.hJ (w':=w') (λk j _=>⟨Z,j.grow z,g.old k j.lt⟩) R)
variable{L':Nat->Option Lv}{r':Nat}
section
variable{j:py}
theorem Co.Fh(c:Co I l K L r Inb nG w):Mn I L w I.bk:=by
 have R:=c.env.rep;refine⟨R.lk,R.kf,R.ks,R.kd,λg v d=>⟨λe=>?_,λh=>(c.chan g v d _ h).2.1 Z⟩⟩;let⟨f,n,A⟩:=c.at_ g v d;exact(A.own.ap _ e).1 (c.rq g v d).k.symm
theorem Co.tP(c:Co I l K L r Inb nG w)(d:Co I l K' L' r' d' nG w')(h:w'.heap[I.bk]?=w.heap[I.bk]?):K'.nF=K.nF/\K'.nS=K.nS/\K'.nD=K.nD:=F6 c.env.rep d.env.rep h
theorem MO{a b:Int}(c:Pm (ep l) κ1 w1 P S K)(g:Fit (ep l) w1)(h:∀k,w1.heap.size<=k->ep l k=0)(m:i<2)(B:p<P.n)(C:S.ts i p=J j)(hF:1<=K.nF/\K.nF<=32)(E:p<(j.K0 K).nS)(F:S.N i p<=4398046511104)(H:pz j.Ls)(R:j.Ls.length<7036874417568)(T:qR (j.K0 K) p j.kd j.A j.nK false j.Ls=.inl (.call e a b f))(W:0<=e/\e<100) :
  oL true (ep l) 22 #[Po (J (O ((P.rb i).bl) 0 G')),vi (p:Int)] w1 λx w2=>zF (ep l) κ1 i w1 (P.rb i) P.B S.rr P.n (S.ts i) (S.D i) (S.N i) (S.Xs i) p j.kd j.A j.nK (j.K0 K) j.Ls (i5 K p e a b f) x w2:=by
 intro Stop fr cs o;refine FN (c.rl i m) g h c.R c.Rc c.rX hF p (λq G u y M=>?_) Stop fr cs λx w2 d=>o x w2 ?_
 .grind
 .rcases d with⟨z,_⟩|⟨q,u,y,d⟩
  .simp[oE]at z;omega
  grind
theorem Jv{d:Out}{A:Int}{m:List (Int×Int)}{w2:Wd}(g:Pm (ep l) κ1 w1 P S K)(o:κ1 b3=8)(u:b3<w1.heap.size)(C:i<2)(E:p<6)(x:zF (ep l) κ1 i w1 (P.rb i) P.B S.rr P.n (S.ts i) (S.D i) (S.N i) (S.Xs i) p e A f B m d q w2):Fit (ep l) w2/\w2.heap[P.bw]?=w1.heap[P.bw]?/\w2.heap[b3]?=w1.heap[b3]?/\w2.heap[P.wm]?=w1.heap[P.wm]?:=by
 have F:=x.1;have h:∀ {k c},k<w1.heap.size->κ1 k=c->c≠1->c<100->w2.heap[k]?=w1.heap[k]?:=λ{k c} y H R T=>F.old k y λz=>by
  have:=rS.1 (A6.1 z).2
  grind
 exact⟨F.fit,h g.rw.1.lt g.rw.2 Zb Zb,h u o Zb Zb,h g.r5.1.lt g.r5.2 Zb Zb⟩
theorem b0K{b:Int}(h:Pw l L (r+1) Inb nG w κ P S K t)(ht:t<=1000000000000)(h8:κ b3=8)(s':F7 (ep l) w b3)(hc:w.cell? (O b3 1 G')=J (vi (p:Int)))(m:i<2)(R:p<P.n)(hU:S.U i p=J v.C.o)(hL:L v.C.o.gid=J v)(y':v.C.slot=p)(p':S.ts i p=J j)(t':p<(j.K0 K).nS)(hn:qR (j.K0 K) p j.kd j.A j.nK false j.Ls=.inl (.call e f b g))(hr:0<=e/\e<100)(C:pz j.Ls)(hT:(v.turn K).1=(i5 K p e f b g).K)(ho:rH (j.K0 K) p j.kd j.A j.nK (j.Ls++[((i5 K p e f b g).n,(i5 K p e f b g).e)]) (i5 K p e f b g).e=G')(tie:∀(c:Lv) (T:Tk),c.C=v.C->(c.S=λ_=>(v.turn K).2)->T.K=j.K0 K->T.kd=j.kd->T.A=j.A->T.B=j.nK->T.Ls=j.Ls++[((i5 K p e f b g).n,(i5 K p e f b g).e)]->p<T.K.nS->Tie c p (.begun T))(hcl:∃n' a' b' c',(v.turn K).2 []=.call n' a' b' c')(M:fx (ep l) [] 2 w [(P.bw,0),(b3,0)] [(0,2,.v (Sc (J (O P.wl 0 G')) 2 P.cl)),(1,1,ci (p:Int))] 160 [(0,.c (.p 0 0)),(3,.c (.p 1 0)),(9,.c (ci i))] a w)(z':∀L' d' w2 κ' z K',Pw l L' r d' nG w2 κ' P z K' (t+1)->F3 P.kb L κ w L' κ' w2->iv J' true true (ep l) (X J' f' l d' nG 0) (G (fr.finish (Bo true)) cs) w2):iv J' true true (ep l) (X J' f' l Inb nG 0) (G ((base 9).at a AB) (fr::cs)) w:=by
 have W:=h.pm;have n6:=(W.rl i m).n6;refine Hc (bo:=false) (e0:=0) (Mid:=λl' d' i' w'=>l'=l/\i'=nG/\∃c:Lv,c.C=v.C/\(c.S=λ_=>(v.turn K).2)/\Co P.kb l (v.turn K).1 (ai L v.C.o.gid (J c)) r d' nG w'/\Kp P.kb L w (ai L v.C.o.gid (J c)) w') m W.r4.1.lt (W.l i m).1 M (λA' B' y d=>?_) (λl' d' i' w' B=>?_) λl' d' i' w1 a' B lv=>?_
 .have gd:Grown w (w.at d):=⟨af _,λ_ _=>rfl,mX⟩;have C':∀(q:Nat) (u:Lv),(p:Int)=q->S.U i q=J u.C.o->L u.C.o.gid=J u->q=p/\u=v:=λq u e' h1 h2=>by
   grind
  refine CH (h.co.at d) h.nS ((h.lm i m).grown gd) (λq hq=>by have:=h.tN i q m hq;omega) (λq q' o h1 h2 C h4=>(h.one i q i q' o o m m h1 h2 C h4 Z).2) p A' B' (λhb=>?_) (λq e' hq hn=>?_) (λq u e' hq h1 h2 C w' c d' c1 c2 c3 c4 c5 c6=>?_) λq u e' hq h1 h2 C w' d' va er g' cap hd=>?_
  .simp at hb;omega
  .obtain rfl:p=q:=by omega
   grind
  .obtain⟨rfl,rfl⟩:=C' q u e' h1 C;exact y l d' nG w' ⟨Z,Z,c,c1,c2,c4,λk y=>c5 k ⟨y.lt,y.nf,y.ns,y.nd,y.own⟩⟩
  grind
 .let⟨_,_,c,_,_,_,E⟩:=B;have H:∀k,κ k≠0->w'.heap[k]?=w.heap[k]?:=λk h0=>(E k (h.mw k h0).mn).2;exact⟨H _ (by rw[W.rw.2];decide),H _ (by rw[h8];decide),H _ (by rw[W.r4.2];decide)⟩
 .obtain⟨rfl,rfl,c,c1,c2,m',E⟩:=B;have H:∀k,κ k≠0->w1.heap[k]?=w.heap[k]?:=λk h0=>(E k (h.mw k h0).mn).2;have g':=h.pg.more m R hU hL c1 m' E (h.co.tP m' (E _ h.co.Fh).2);rw[hT]at g';have u':=h.Cm (κ1:=κ) λk h0 _=>⟨Z,H k h0⟩
  have ub:=H b3 (by rw[h8];decide);refine HP (κ1:=κ) (Q:=λw2=>∃κ' z,Pw l' (ai L v.C.o.gid (J c)) r d' i' w2 κ' P z (i5 K p e f b g).K (t+1)/\F3 P.kb L κ w (ai L v.C.o.gid (J c)) κ' w2) u' m'.env.fit m'.soft h8 (s'.of ub) ((Zf (w:=w) (a:=(O b3 1 G')) ub).trans hc) m lv (λw2 F=>?_) λw2 w3 hQ F=>?_
  .have x':Pm (ep l') κ w2 P S K:=u'.move λk y B=>⟨Z,F.old k y Zc,(h.mw k B.1).sf⟩
   have g2:=g'.hJ F (λk y=>(by cases y)) (λ_ _=>rfl) λk y=>(g'.mw k y).grow F.size;have lb:b3<w2.heap.size:=Zg (D9 s'.lt ub) F.size;intro Stop fr cs hx;refine MO x' F.fit g2.co.soft m R p' ⟨by have:=h.sz;omega,h.sz.2.1⟩ t' (by have:=h.tN i p m R;omega) C ?_ hn hr Stop fr cs λx w3 hP=>?_
   .cases j with
    | fresh _ _ _=>show 0<_;decide
    | begun T0=>have:=h.tL i p T0 m R p';show T0.Ls.length<_;omega
   .let⟨f1,u1,u2,u3⟩:=Jv x' h8 lb m Za hP
    let⟨X',κ',z,o',h8'⟩:=h.more (w1:=w2) m R hU hL y' p' c1 (λT=>tie c T c1 c2) t' g2 (λk B=>by
     let⟨m1,e1⟩:=E k B
     exact⟨m1.grow F.size,(F.old k m1.lt Zc).trans e1⟩) ho hP
    exact hx x w3 ⟨X',f1,o'.co.soft,u1,u2,u3,κ',z,o',h8'⟩
  .let⟨κ',z,o',k8⟩:=hQ;exact z' _ _ w3 κ' z _ (o'.grown F) (k8.hJ F)
end
section
variable{f:py}
theorem ZT{b va er:Int}(c:Pw l L (r+1) Inb nG w κ P S K t)(ht:t<=1000000000000)(h8:κ b3=8)(m':F7 (ep l) w b3)(hc:w.cell? (O b3 1 G')=J (vi (p:Int)))(j:i<2)(E:p<P.n)(hU:S.U i p=J v.C.o)(hL:L v.C.o.gid=J v)(hsl:v.C.slot=p)(k':S.ts i p=J f)(t':p<(f.K0 K).nS)(hn:qR (f.K0 K) p f.kd f.A f.nK false f.Ls=.inl (.call e g b h))(hr:0<=e/\e<100)(y:pz f.Ls)(hT:(v.turn K).1=(i5 K p e g b h).K)(ho:rH (f.K0 K) p f.kd f.A f.nK (f.Ls++[((i5 K p e g b h).n,(i5 K p e g b h).e)]) (i5 K p e g b h).e=J (va,er))(hd:v.C.kd=f.kd/\v.C.A=f.A/\v.C.B=f.nK)(u':(v.turn K).2 []=.done va er)(M:fx (ep l) [] 2 w [(P.bw,0),(b3,0)] [(0,2,.v (Sc (J (O P.wl 0 G')) 2 P.cl)),(1,1,ci (p:Int))] 160 [(0,.c (.p 0 0)),(3,.c (.p 1 0)),(9,.c (ci i))] a w)(x':∀L' d' w2 κ' R K',Pw l L' r d' nG w2 κ' P R K' (t+1)->F3 P.kb L κ w L' κ' w2->iv J' true true (ep l) (X J' f' l d' nG 0) (G (fr.finish (Bo true)) cs) w2):iv J' true true (ep l) (X J' f' l Inb nG 0) (G ((base 9).at a AB) (fr::cs)) w:=by
 have T:=c.pm;have n6:=(T.rl i j).n6;refine Hc (bo:=true) (e0:=0) (Mid:=λl' d' h' w'=>l'=l/\h'=nG/\∃B g':Nat,(∀k,Mn P.kb L w k->¬rJ (P.lb i) (S.V i) p k->k≠B)/\Co P.kb l (v.turn K).1 (ai L v.C.o.gid G') r d' nG w'/\(∀k,Mn P.kb L w k->¬rJ (P.lb i) (S.V i) p k->Mn P.kb (ai L v.C.o.gid G') w' k/\w'.heap[k]?=w.heap[k]?)/\oD P.kb l (ai L v.C.o.gid G') w' (P.lb i) P.n (P.B0 i) (pW (S.U i) p) (pN (S.V i) p (Sc (J (O B 0 G')) (S.N i p+1) g')) (pN (S.N i) p (S.N i p+1)) (pN (S.Xs i) p (S.Xs i p++oG v.C.kd v.C.A v.C.B er va))) j T.r4.1.lt (T.l i j).1 M (λy' z' m d=>?_) (λl' d' h' w' W=>?_) λl' d' h' w1 a' W lv=>?_
 .have gd:Grown w (w.at d):=⟨af _,λ_ _=>rfl,mX⟩;have B':∀(q:Nat) (u:Lv),(p:Int)=q->S.U i q=J u.C.o->L u.C.o.gid=J u->q=p/\u=v:=λq u C h1 h2=>by
   grind
  refine CH (c.co.at d) c.nS ((c.lm i j).grown gd) (λq hq=>by have:=c.tN i q j hq;omega) (λq q' o h1 h2 y h4=>(c.one i q i q' o o j j h1 h2 y h4 Z).2) p y' z' (λhb=>?_) (λq C hq hn=>?_) (λq u C hq h1 h2 y w' v' d' c1 c2 c3 c4 c5 c6=>?_) λq u C hq h1 h2 y w' d' va' er' B g' n' d1 d2 d3 d4=>?_
  .simp at hb;omega
  .obtain rfl:p=q:=by omega
   grind
  .grind
  .obtain⟨rfl,rfl⟩:=B' q u C h1 y;rw[u']at n';obtain⟨rfl,rfl⟩:=Node.done.inj n';exact m l d' nG w' ⟨Z,Z,B,g',λk m z=>d1 k ⟨m.lt,m.nf,m.ns,m.nd,m.own⟩ z,d2,λk m z=>d3 k ⟨m.lt,m.nf,m.ns,m.nd,m.own⟩ z,d4⟩
 .let⟨_,_,B,g',_,_,kp,_⟩:=W;have lc:=c.lc i j;have no:∀k,κ k≠0->κ k<300->¬rJ (P.lb i) (S.V i) p k:=λk h0 y z=>by
   rcases z with rfl|rfl|z
   .have:=lc.2.1;omega
   .have:=lc.2.2.1;omega
   .have:=lc.2.2.2 p k E z;omega
  have H:∀k,κ k≠0->κ k<300->w'.heap[k]?=w.heap[k]?:=λk h0 y=>(kp k (c.mw k h0).mn (no k h0 y)).2;exact⟨H _ (by rw[T.rw.2];decide) (by rw[T.rw.2];decide),H _ (by rw[h8];decide) (by rw[h8];decide),H _ (by rw[T.r4.2];decide) (by rw[T.r4.2];decide)⟩
 .obtain⟨rfl,rfl,gg,g',hg,i',kp,Q'⟩:=W;have lc:=c.lc i j;have no:∀k,κ k≠0->κ k<300->¬rJ (P.lb i) (S.V i) p k:=λk h0 y z=>by
   rcases z with rfl|rfl|z
   .have:=lc.2.1;omega
   .have:=lc.2.2.1;omega
   .have:=lc.2.2.2 p k E z;omega
  have nk:¬rJ (P.lb i) (S.V i) p P.kb.bk:=λz=>by
   rcases z with C|C|C
   .exact(c.lm i j).m.qo.bk C.symm
   .exact(c.lm i j).m.qU.bk C.symm
   .exact((c.lm i j).m.qJ p E _ C).bk Z
  let⟨κ1,B,H⟩:=c.pg.over j E hU hL hg i' kp Q' (c.co.tP i' (kp _ c.co.Fh nk).2);rw[hT]at B;have o':=c.Cm λk h0 y=>⟨(H k (c.mw k h0).mn y).1,(H k (c.mw k h0).mn y).2.2⟩
  have u8:=H b3 (c.mw b3 (by rw[h8];decide)).mn (by rw[h8];decide);have ub:=u8.2.2;have p':κ1 b3=8:=u8.1.trans h8;refine HP (κ1:=κ1) (Q:=λw2=>∃κ' R,Pw l' (ai L v.C.o.gid G') r d' h' w2 κ' P R (i5 K p e g b h).K (t+1)/\F3 P.kb L κ w (ai L v.C.o.gid G') κ' w2) o' i'.env.fit i'.soft p' (m'.of ub) ((Zf (w:=w) (a:=(O b3 1 G')) ub).trans hc) j lv (λw2 F=>?_) λw2 w3 hQ F=>?_
  .have s':Pm (ep l') κ1 w2 P S K:=o'.move λk m W=>⟨Z,F.old k m Zc,(B.mw k W.1).sf⟩
   have g2:=B.hJ F (λk m=>(by cases m)) (λ_ _=>rfl) λk m=>(B.mw k m).grow F.size;have lb:b3<w2.heap.size:=Zg (D9 m'.lt ub) F.size;intro Stop fr cs z;refine MO s' F.fit g2.co.soft j E k' ⟨by have:=c.sz;omega,c.sz.2.1⟩ t' (by have:=c.tN i p j E;omega) y ?_ hn hr Stop fr cs λx w3 hP=>?_
   .cases f with
    | fresh _ _ _=>show 0<_;decide
    | begun T0=>have:=c.tL i p T0 j E k';show T0.Ls.length<_;omega
   .let⟨f1,u1,u2,u3⟩:=Jv s' p' lb j Za hP
    let⟨hx1,κ',R,j',h8'⟩:=c.ends (w1:=w2) j E hU k' hd g2 (λk W y=>by
     let⟨a1,m1,e1⟩:=H k W y
     exact⟨a1,m1.grow F.size,(F.old k m1.lt Zc).trans e1⟩) ho hP
    exact z x w3 ⟨hx1,f1,j'.co.soft,u1,u2,u3,κ',R,j',h8'⟩
  .let⟨κ',R,j',k8⟩:=hQ;exact x' _ _ w3 κ' R _ (j'.grown F) (k8.hJ F)
end
theorem SA(h:Pw l L (r+1) Inb nG w κ P S K t)(ht:t<=1000000000000)(B:κ b3=8)(C:F7 (ep l) w b3)(E:w.cell? (O b3 1 G')=J (vi s))(k:i<2)(M:fx (ep l) [] 2 w [(P.bw,0),(b3,0)] [(0,2,.v (Sc (J (O P.wl 0 G')) 2 P.cl)),(1,1,ci s)] 160 [(0,.c (.p 0 0)),(3,.c (.p 1 0)),(9,.c (ci i))] a w)(F:∀L' d' w2 κ' S' K',Pw l L' r d' nG w2 κ' P S' K' (t+1)->F3 P.kb L κ w L' κ' w2->iv J' true true (ep l) (X J' f' l d' nG 0) (G (fr.finish (Bo true)) cs) w2):iv J' true true (ep l) (X J' f' l Inb nG 0) (G ((base 9).at a AB) (fr::cs)) w:=by
 have hN:∀q,q<P.n->S.N i q<=4398046511104:=λq f=>by have:=h.tN i q k f;omega
 have g':∀q z o,q<P.n->z<P.n->S.U i q=J o->S.U i z=J o->q=z:=λq z o m h2 H h4=>(h.one i q i z o o k k m h2 H h4 Z).2;have hF:1<=K.nF/\K.nF<=32:=⟨by have:=h.sz;omega,h.sz.2.1⟩;have gd:∀d,Grown w (w.at d):=λd=>⟨af _,λ_ _=>rfl,mX⟩
 cases T:oE s P.n with
 | false =>
  have no:∀q:Nat,s=q->q<P.n->False:=λq e f=>by simp[oE]at T;omega
  refine Pn (e0:=3) h B C E k M (λW a' hk d=>CH (h.co.at d) h.nS ((h.lm i k).grown (gd d)) hN g' s W a' (λ_ w' g=>hk w' ⟨g.size,g.old,mX⟩) (λq e f=>(no q e f).elim) (λq u e f=>(no q e f).elim) λq u e f=>(no q e f).elim) (λw' j=>?_) λw2 y k8=>F _ _ w2 κ S K y k8;intro Stop fr cs hx;refine FN (j.pm.rl i k) j.fit j.co.soft j.pm.R j.pm.Rc j.pm.rX hF s (λq t' e f=>(no q e f).elim) Stop fr cs λx w2 y=>hx x w2 ?_
  grind
 | true =>
  simp only[oE,aB,decide_eq_true_eq]at T;obtain⟨p,rfl⟩:=cT T.1;have R:p<P.n:=by omega
  rcases h.tie i p k R with⟨i',n'⟩|⟨v,ts,hU,hL,c',j',tie⟩
  .refine Pn (e0:=11) h B C E k M (λW a' hk d=>CH (h.co.at d) h.nS ((h.lm i k).grown (gd d)) hN g' p W a' (λo'=>?_) (λq e f _ w' g=>hk w' ⟨g.size,g.old,mX⟩) (λq u e f m=>?_) λq u e f m=>?_) (λw' j=>?_) λw2 y k8=>F _ _ w2 κ S K y k8
   .grind
   .obtain rfl:p=q:=by omega
    rw[i']at m;cases m
   .obtain rfl:p=q:=by omega
    rw[i']at m;cases m
   .intro Stop fr cs hx;refine FN (j.pm.rl i k) j.fit j.co.soft j.pm.R j.pm.Rc j.pm.rX hF p (λq t' e f e2=>?_) Stop fr cs λx w2 y=>hx x w2 ?_
    .grind
    .rcases y with⟨e,_⟩|⟨q,e,f,y⟩
     .simp[oE]at e;omega
     grind
  .let⟨p',a0,b,c,hn,hr,H,hT,l'⟩:=ZY tie c' K;have nx:=tie.next K;have k':p<(ts.K0 K).nS:=by
    cases ts with
    | fresh _ _ _=>show p<K.nS;rw[h.nS];exact R
    | begun T0=>exact tie.2.2.2.2.2.2.2.2
   rcases l' with⟨e',ho,m'⟩|⟨va,er,e',ho⟩
   .exact b0K h ht B C E k R hU hL c' j' k' hn hr H hT ho m' e' M F
   .exact ZT h ht B C E k R hU hL c' j' k' hn hr H hT ho ⟨nx.1,nx.2.1,nx.2.2.1⟩ e' M F
section
variable{f:Nat->Nat->Option ng}{n:Nat->Nat->Vu}{N:Nat->Nat->Nat}{s:Nat->Nat->List Vu}
theorem Pg.cancel(h:Pg l L r Inb nG w κ P f n N s K)(M:i<2)(co:Co P.kb l K L' r d' nG w')(X:oD P.kb l L' w' (P.lb i) P.n (P.B0 i) (λ_=>G') (n i) (N i) (s i))(F:∀k,Mn P.kb L w k->k≠(P.lb i).bu->Mn P.kb L' w' k/\w'.heap[k]?=w.heap[k]?)(h1:∀g v,L' g=J v->L g=J v/\∀p,p<P.n->f i p≠J v.C.o)(h2:∀g v,L g=J v->(∀p,p<P.n->f i p≠J v.C.o)->L' g=J v) :
  Pg l L' r d' nG w' κ P (nM f i λ_=>G') n N s K/\∀k,Mn P.kb L w k->κ k<300->Mn P.kb L' w' k/\w'.heap[k]?=w.heap[k]?:=by
 have lc:=h.lc i M;have C:∀k,κ k≠0->k≠(P.lb i).bu->Mw P.kb l L' w' k/\w'.heap[k]?=w.heap[k]?:=λk h0 H=>by
  have m:=h.mw k h0;exact⟨⟨(F k m.mn H).1,m.bk,m.oq,m.rc⟩,(F k m.mn H).2⟩
 refine⟨⟨co,h.nS,λj R=>?_,h.lc,λk hk=>?_,λa b c d o o' T W G hd e1 e2 he=>?_,λg v hv=>?_,h.sz,h.pos⟩,λk hm h3=>F k hm λe=>by rw[e,lc.2.1]at h3;omega⟩
 .by_cases e:j=i
  .subst e;simp only[nM,if_true];exact X
  .simp only[nM,mY e];have z:=h.lc j R;have E:=h.lm j R;have c':=E.m.is.small;have no:∀ {k c},κ k=300+100*j+c->c<100->k≠(P.lb i).bu:=λ{k c} W hl hx=>by rw[hx,lc.2.1]at W;omega
   have I:=C _ (by rw[z.1];omega) (no (c:=0) z.1 Za);have ku:=C _ (by rw[z.2.1];omega) (no (c:=1) (by rw[z.2.1];omega) Za);have kn:=C _ (by rw[z.2.2.1];omega) (no (c:=2) (by rw[z.2.2.1];omega) Za);have kl:∀q,q<P.n->∀y,(n j q).ownBlock=J y->_:=λq x y B=>C y (by rw[z.2.2.2 q y x B];omega) (no (c:=10+q) (by rw[z.2.2.2 q y x B];omega) Za);refine⟨⟨E.m.is.same I.2 ku.2 kn.2 λq x y B=>(kl q x y B).2,I.1,ku.1,kn.1,λq x y B=>(kl q x y B).1,E.m.b0⟩,λq x o ho=>?_⟩;let⟨u,a1,a2,a3⟩:=E.live q x o ho;exact⟨u,h2 _ u a1 λp hp hU=>e (h.one j q i p o u.C.o R M x hp ho hU (by rw[a2])).1,a2,a3⟩
 .by_cases e:k=(P.lb i).bu
  .rw[e];exact X.m.qo
  .exact(C k hk e).1
 .have un:∀ {a b:Nat} {o:ng},nM f i (λ_=>G') a b=J o->f a b=J o:=λ{a b o} hh=>by
   unfold nM at hh;split at hh
   all_goals grind
  exact h.one a b c d o o' T W G hd (un e1) (un e2) he
 .let⟨b',H⟩:=h1 g v hv;let⟨a,b,T,G,e'⟩:=h.all g v b';refine⟨a,b,T,G,?_⟩;unfold nM
  grind
theorem Pg.begun{p:Nat}{C:Ctx}{z:Lv}(h:Pg l L r Inb nG w κ P f n N s K)(hi:i<2)(hp:p<P.n)(hU:f i p=G')(hv:z.C=C)(e':C.o.bo∈z.pv)(hg:C.o.gid=nG)(co:Co P.kb (C.o::l) K (ai L nG (J z)) r d' (nG+1) w')(kp:∀k,Mn P.kb L w k->k≠(P.lb i).bu->Mn P.kb (ai L nG (J z)) w' k/\w'.heap[k]?=w.heap[k]?)(c':oD P.kb (C.o::l) (ai L nG (J z)) w' (P.lb i) P.n (P.B0 i) (rO (f i) p C.o) (n i) (N i) (s i)) :
  Pg (C.o::l) (ai L nG (J z)) r d' (nG+1) w' κ P (nM f i (rO (f i) p C.o)) n N s K/\∀k,Mn P.kb L w k->κ k<300->Mn P.kb (ai L nG (J z)) w' k/\w'.heap[k]?=w.heap[k]?:=by
 have lc:=h.lc i hi;have H:∀k,κ k≠0->k≠(P.lb i).bu->Mw P.kb (C.o::l) (ai L nG (J z)) w' k/\w'.heap[k]?=w.heap[k]?:=λk h0 hn=>by
  have m:=h.mw k h0;let⟨m1,m2⟩:=kp k m.mn hn;refine⟨⟨m1,m.bk,m.oq,λo E=>?_⟩,m2⟩;rcases ae.1 E with rfl|E
  .intro e;exact(m1.own nG z (by rw[aH])).1 (e▸e')
  .exact m.rc o E
 have g':∀ {j q o},j<2->q<P.n->f j q=J o->o.gid<nG/\∃u,L o.gid=J u/\u.C.o=o/\u.C.slot=q:=λ{j q o} R x E=>by
  let⟨u,T,G,M⟩:=(h.lm j R).live q x o E;exact⟨(h.co.gid _ u T).2.2,u,T,G,M⟩
 have un:∀ {a b:Nat} {o:ng},nM f i (rO (f i) p C.o) a b=J o->(a=i/\b=p/\o=C.o)\/f a b=J o:=λ{a b o} hh=>by
  unfold nM rO at hh;split at hh
  all_goals grind
 refine⟨⟨co,h.nS,λj R=>?_,h.lc,λk hk=>?_,λa b c d o o' X hc hb hd e1 e2 he=>?_,λg v W=>?_,h.sz,by omega⟩,λk hm h3=>kp k hm λe=>by rw[e,lc.2.1]at h3;omega⟩
 .by_cases e:j=i
  .subst e;simp only[nM,if_true];exact c'
  .simp only[nM,mY e];have B:=h.lc j R;have lm:=h.lm j R;have h':=lm.m.is.small;have no:∀ {k c},κ k=300+100*j+c->c<100->k≠(P.lb i).bu:=λ{k c} hc hl hx=>by rw[hx,lc.2.1]at hc;omega
   have I:=H _ (by rw[B.1];omega) (no (c:=0) B.1 Za);have ku:=H _ (by rw[B.2.1];omega) (no (c:=1) (by rw[B.2.1];omega) Za);have kn:=H _ (by rw[B.2.2.1];omega) (no (c:=2) (by rw[B.2.2.1];omega) Za);have kl:∀q,q<P.n->∀y,(n j q).ownBlock=J y->_:=λq x y F=>H y (by rw[B.2.2.2 q y x F];omega) (no (c:=10+q) (by rw[B.2.2.2 q y x F];omega) Za);refine⟨⟨lm.m.is.same I.2 ku.2 kn.2 λq x y F=>(kl q x y F).2,I.1,ku.1,kn.1,λq x y F=>(kl q x y F).1,lm.m.b0⟩,λq x o E=>?_⟩;let⟨gl,u,T,G,M⟩:=g' R x E;exact⟨u,by rw[az _ _ Za];exact T,G,M⟩
 .by_cases e:k=(P.lb i).bu
  .rw[e];exact c'.m.qo
  .exact(H k hk e).1
 .rcases un e1 with⟨i1,i2,i3⟩|f1
  .grind
  .rcases un e2 with⟨j1,j2,j3⟩|f2
   .grind
   .exact h.one a b c d o o' X hc hb hd f1 f2 he
 .by_cases e:g=nG
  .rw[e,aH]at W;cases Ze W;exact⟨i,p,hi,hp,by rw[hv];simp[nM,rO]⟩
  .rw[az _ _ e]at W;let⟨a,b,X,hb,l'⟩:=h.all g v W;refine⟨a,b,X,hb,?_⟩;unfold nM rO;split
   all_goals grind
end
theorem NQ{Q:Nat->Prop}(f:Q c)(g:Q d):∀i,i < [(c,0),(d,0)].length->Q (nJ [(c,0),(d,0)] i).1:=λi e=>by
 have e:i<2:=e;obtain rfl|rfl:i=0\/i=1:=by omega
 .exact f
 .exact g
theorem Eh{w w':Wd}(e:w'.heap[c]?=w.heap[c]?)(f:w'.heap[d]?=w.heap[d]?):∀i,i < [(c,0),(d,0)].length->w'.heap[(nJ [(c,0),(d,0)] i).1]?=w.heap[(nJ [(c,0),(d,0)] i).1]?:=NQ (Q:=λk=>w'.heap[k]?=w.heap[k]?) e f
theorem DU{w w':Wd}{sft:Nat->Nat}(e:sft c=0/\w'.heap[c]?=w.heap[c]?)(f:sft d=0/\w'.heap[d]?=w.heap[d]?):∀i,i < [(c,0),(d,0)].length->sft (nJ [(c,0),(d,0)] i).1=0/\w'.heap[(nJ [(c,0),(d,0)] i).1]?=w.heap[(nJ [(c,0),(d,0)] i).1]?:=NQ (Q:=λk=>sft k=0/\w'.heap[k]?=w.heap[k]?) e f
def FJ:List bh:=match Tryz.f9.body with
 | some (.seq _ (.seq _ (.seq _ (.seq _ (.seq _ (.seq (.seq _ (.block b (.seq _ (.cond _ (.seq r x) _)))) e))))))=>[.code r,.code x,.inBlock b,.code e]
 | _=>[]
variable{ka cl a0 a1 a2 R B:Int}{ot:Bool}
section
variable{A:Int}
structure pV (P:Wp) (b3:Nat) (w:Wd) (l':List ng) (w':Wd):Prop where
 fit:Fit (ep l') w'
 new:∀k,w'.heap.size<=k->ep l' k=0
 bw:ep l' P.bw=0/\w'.heap[P.bw]?=w.heap[P.bw]?
 b3:ep l' b3=0/\w'.heap[b3]?=w.heap[b3]?
 wl:ep l' P.wl=0/\w'.heap[P.wl]?=w.heap[P.wl]?
 wm:ep l' P.wm=0/\w'.heap[P.wm]?=w.heap[P.wm]?
theorem pV.hJ{f:List ng}{w1 w2:Wd}(h:pV P b3 w f w1)(F:nC (ep f) [] w1 w2)(c:P.bw<w.heap.size/\b3<w.heap.size/\P.wl<w.heap.size/\P.wm<w.heap.size):pV P b3 w f w2:=by
 have d:∀k,k<w.heap.size->w1.heap[k]?=w.heap[k]?->w2.heap[k]?=w.heap[k]?:=λk g e=>(F.old k (D9 g e) Zc).trans e;exact⟨F.fit,λk g=>h.new k (Zh F.size g),⟨h.bw.1,d _ c.1 h.bw.2⟩,⟨h.b3.1,d _ c.2.1 h.b3.2⟩,⟨h.wl.1,d _ c.2.2.1 h.wl.2⟩,⟨h.wm.1,d _ c.2.2.2 h.wm.2⟩⟩
theorem LM{Mid Q:List ng->(Nat->Option eZ)->Nat->Wd->Prop}(j:Pm (ep l) κ w P S K)(h8:κ b3=8)(W:i<2)(M:fx (ep l) [] 2 w [(P.bw,0),(b3,0)] (wA P ka s cl a0 a1 a2 R A B ot) 160 [(0,.c (.p 0 0)),(3,.c (.p 1 0)),(9,.c (ci i))] a w)(c':∀o u,(∀c d' e w',Mid c d' e w'->X J' f' c d' e 0 (G (o.finish (vi e0)) u) w')->∀d,X J' f' l Inb nG 0 (G (ay J' 19 #[Po (J (O ((P.lb i).bl) 0 G')),vi s,.agg #[vi R,vi A,vi B]] .normal) (o::u)) (w.at d))(hM:∀c d' e w',Mid c d' e w'->pV P b3 w c w')(g':∀c d' e w' w1,Mid c d' e w'->nC (ep c) [] w' w1->oL true (ep c) 20 #[Po (J (O ((P.rb i).bl) 0 G')),vi s,.agg #[vi R,vi A,vi B]] w1 λx w2=>x=vi e0/\pV P b3 w c w2/\Q c d' e w2)(h':∀c d' e w2 g,Q c d' e w2->nC (ep c) [] w2 g->iv J' true true (ep c) (X J' f' c d' e 0) (G (fr.finish (Bo true)) cs) g):iv J' true true (ep l) (X J' f' l Inb nG 0) (G ((base 9).at a FJ) (fr::cs)) w:=by
 have i':b3<w.heap.size:=F7.lt (M.bl 1 Zc);have j':=db j.rw.1.lt (db i' (db j.r4.1.lt j.r5.1.lt));refine Cv (r:=.c (ci e0)) (svs:=[.c (.v (Po (J (O ((P.lb i).bl) 0 G')))),.c (ci s),.g [ci R,ci A,ci B]]) (j:=11) [P.wl] [[Po (J (O ((P.lb i).bl) 0 G'))]] (λw' E=>∃c d' e,E=(ep c,X J' f' c d' e 0)/\Mid c d' e w') M Z (λ_=>rfl) (λ_=>rfl) Z Zd ⟨⟨mX,by omega⟩,⟨j.r4.1.lt,Eo Zc,by simpa using(j.l i W).1⟩⟩ Z Z Z ga Z Z (λ_=>rfl) mX (λo u m=>λd=>.stop (c' o u (λc d' e w' f=>tF (m w' (ep c,X J' f' c d' e 0) ⟨c,d',e,Z,f⟩)) d)) (λw' E f=>?_) λw' E a' f F H=>?_
 .obtain⟨c,d',e,rfl,f⟩:=f;have q:=hM _ _ _ _ f;exact⟨Eh q.bw.2 q.b3.2,λk m=>by cases Zi m;exact q.wl.2⟩
 .obtain⟨c,d',e,rfl,f⟩:=f;have q:=hM _ _ _ _ f;have M1:=(M.next q.fit q.new (DU q.bw q.b3) F H).oo 2 [0,3,9,10] Z Z;refine ia 1 2 [] M1 Z Z mX λa2 w2 z=>?_;have y:=q.hJ z.hJ j'
  refine Cv (r:=.c (ci e0)) (svs:=[.c (.v (Po (J (O ((P.rb i).bl) 0 G')))),.c (ci s),.g [ci R,ci A,ci B]]) (j:=11) [P.wm] [[Po (J (O ((P.rb i).bl) 0 G'))]] (λg T=>T=(ep c,X J' f' c d' e 0)/\pV P b3 w c g/\Q c d' e g) z.nm Z (λ_=>rfl) (λ_=>rfl) Z Zd ⟨⟨mX,by omega⟩,⟨D9 j.r5.1.lt y.wm.2,Eo Zc,by simpa using(Zf (w:=w) (a:=(O P.wm i G')) y.wm.2).trans (j.l i W).2⟩⟩ Z Z Z iz Z Z (λ_=>rfl) mX (λo u m=>g' c d' e w' w2 f z.hJ _ o u λx g hq=>by
   obtain⟨rfl,h,C⟩:=hq
   exact m g _ ⟨Z,h,C⟩) (λg T f=>?_) λg T a3 f F H=>?_
  .obtain⟨rfl,h,C⟩:=f;exact⟨Eh (h.bw.2.trans y.bw.2.symm) (h.b3.2.trans y.b3.2.symm),λk m=>by cases Zi m;exact h.wm.2.trans y.wm.2.symm⟩
  .obtain⟨rfl,h,C⟩:=f;have M3:=(z.re F H).nQ [10,11] Z h.fit h.new;refine ia 200 0 [] M3 Z Z mX λa4 w4 M4=>A9 M4 dO Z Z Z ?_;show iv J' true true (ep c) _ (G (fr.finish (Bo (e0==e0))) cs) w4;rw[show(e0==e0)=true by simp];exact h' c d' e g w4 C M4.hJ
end
variable{l':List ng}{b':Nat}
section
variable{A:Int}{b:Nat->Nat->Option ng}{m:Nat->Nat->Vu}{N:Nat->Nat->Nat}{f:Nat->Nat->List Vu}
theorem Pg.pw(g:Pg l L r Inb nG w κ P S.U S.V S.N S.Xs K)(d:Pm (ep l) κ w P S K)(tie:∀i p,i<2->p<P.n->(S.U i p=G'/\S.ts i p=G')\/∃v t,S.U i p=J v.C.o/\L v.C.o.gid=J v/\v.C.slot=p/\S.ts i p=J t/\Tie v p t)(e:∀i p,i<2->p<P.n->S.N i p<=t)(h:∀i p T,i<2->p<P.n->S.ts i p=J (.begun T)->T.Ls.length<=t)(j:∀c,c<4->S.bN c<=4*t)(k:∀i p x,i<2->p<P.n->x∈S.Xs i p->∃v,x=vi v):Pw l L r Inb nG w κ P S K t :=
 ⟨g.co,g.nS,g.lm,g.lc,g.mw,d,tie,g.one,g.all,g.sz,g.pos,e,h,j,k⟩
theorem Pg.left(g:Pg l' L' r' d' b' w' κ' P b m N f K')(h:Pm sft κ w P S K)(j:κ b3=8)(o:∀k,κ k≠0->κ k<300->κ' k=κ k/\w'.heap[k]?=w.heap[k]?):pV P b3 w l' w':=by
 have d:∀ {k c},κ k=c->c≠0->c<300->ep l' k=0/\w'.heap[k]?=w.heap[k]?:=λ{k c} e q u=>by
  let⟨y,x⟩:=o k (by rw[e];exact q) (by rw[e];exact u);exact⟨(g.mw k (by grind)).sf,x⟩
 exact⟨g.co.env.fit,g.co.soft,d h.rw.2 Zb Zb,d j Zb Zb,d h.r4.2 Zb Zb,d h.r5.2 Zb Zb⟩
theorem Pm.Nu{W:List Nat}{y:Nat->Option py}{U':Nat->Nat->Option ng}(h:Pm sft κ w1 P S K)(hi:i<2)(F:nC sft W w1 w2)(E:∀k∈W,oW i (κ k))(H:oh sft κ i w2 (P.rb i) P.B.b P.n y (S.D i) (S.N i) (S.Xs i)):Pm sft κ w2 P { S with ts:=nM S.ts i y,U:=U' } K:=by
 have u:∀k,k<w1.heap.size->¬oW i (κ k)->w2.heap[k]?=w1.heap[k]?:=λk T G=>F.old k T λM=>G (E k M);have cl:∀ {k c o},F7 sft w1 k/\κ k=c->c<100->w2.cell? (O k o G')=w1.cell? (O k o G')/\F7 sft w2 k/\κ k=c:=λ{k c o} q z=>by
  have e:=u k q.1.lt (by rw[q.2];unfold oW;omega);exact⟨Zf (w:=w1) e,q.1.of e,q.2⟩
 have X:∀j,P.B.is S.rr j->w2.heap[j]?=w1.heap[j]?:=λj d=>u j (h.R.lt d) (by rw[h.Rc j d];unfold oW;omega);refine⟨h.R.keep X,h.Rc,h.rX,λj d=>?_,h.bk.same (λ_ _ _=>rfl) λg x C=>u g (h.bk.blk g x C).2.lt (by rw[(h.bk.blk g x C).1];unfold oW;omega),(cl h.rw Zb).1.trans h.w0,(cl h.rw Zb).1.trans h.w1,(cl h.rw Zb).1.trans h.w2,(cl h.rw Zb).1.trans h.w3,(cl h.rw Zb).1.trans h.w4,λj d=>⟨(cl h.r4 Zb).1.trans (h.l j d).1,(cl h.r5 Zb).1.trans (h.l j d).2⟩,(cl (o:=0) h.rw Zb).2,(cl (o:=0) h.r4 Zb).2,(cl (o:=0) h.r5 Zb).2⟩
 by_cases e:j=i
 .subst e;simp only[vr];exact H
 .simp only[wK e];exact(h.rl j d).same λk h1 z=>⟨Z,u k h1 (by unfold oW at z ⊢;omega)⟩
theorem FZ(h:Pw l L r Inb nG w κ P S K t)(C:κ b3=8)(T:i<2)(M:fx (ep l) [] 2 w [(P.bw,0),(b3,0)] (wA P ka s cl a0 a1 a2 R A B ot) 160 [(0,.c (.p 0 0)),(3,.c (.p 1 0)),(9,.c (ci i))] a w)(W:∀e j,(∀w',Grown w w'->X J' f' l Inb nG 0 (G (e.finish (vi e0)) j) w')->∀d,X J' f' l Inb nG 0 (G (ay J' 19 #[Po (J (O ((P.lb i).bl) 0 G')),vi s,.agg #[vi R,vi A,vi B]] .normal) (e::j)) (w.at d))(a':∀w',Pw l L r Inb nG w' κ P S K t->oL true (ep l) 20 #[Po (J (O ((P.rb i).bl) 0 G')),vi s,.agg #[vi R,vi A,vi B]] w' λx w2=>x=vi e0/\nC (ep l) [] w' w2)(c':∀w2,Pw l L r Inb nG w2 κ P S K (t+1)->F3 P.kb L κ w L κ w2->iv J' true true (ep l) (X J' f' l Inb nG 0) (G (fr.finish (Bo true)) cs) w2):iv J' true true (ep l) (X J' f' l Inb nG 0) (G ((base 9).at a FJ) (fr::cs)) w:=by
 have lf:∀ {w'},nC (ep l) [] w w'->pV P b3 w l w':=λ{w'} F=>(h.grown F).pg.left h.pm C λk h0 _=>⟨Z,F.old k (h.Ba h0) Zc⟩
 have c:∀ {u v:Wd},nC (ep l) [] w u->nC (ep l) [] u v->nC (ep l) [] w v:=λq y=>⟨Zh q.size y.size,λk o _=>(y.old k (Zg o q.size) Zc).trans (q.old k o Zc),y.fit⟩
 refine LM (Mid:=λl' d' b' w'=>l'=l/\d'=Inb/\b'=nG/\nC (ep l) [] w w') (Q:=λl' d' b' w'=>l'=l/\d'=Inb/\b'=nG/\nC (ep l) [] w w') h.pm C T M (λe j o d=>W e j (λw' g=>o l Inb nG w' ⟨Z,Z,Z,g.hJ h.co⟩) d) (λl' d' b' w' E=>?_) (λl' d' b' w' w1 E F=>?_) λl' d' b' w2 w3 hQ F=>?_
 .grind
 .obtain⟨rfl,rfl,rfl,g⟩:=E;intro Stop fr cs hx;exact a' w1 (h.grown (c g F)) Stop fr cs λx w2 z=>hx x w2 ⟨z.1,lf (c (c g F) z.2),Z,Z,Z,c (c g F) z.2⟩
 .obtain⟨rfl,rfl,rfl,g⟩:=hQ;have H:=c g F;exact c' w3 ((h.grown H).later Za) (F3.hJ (F3.refl _ _ _ _) H)
theorem b9V(h:Pw l L r Inb nG w κ P S K t)(h8:κ b3=8)(E:i<2)(n':-9223372036854775808<=R/\R<9223372036854775808)(M:fx (ep l) [] 2 w [(P.bw,0),(b3,0)] (wA P ka s cl a0 a1 a2 R A B ot) 160 [(0,.c (.p 0 0)),(3,.c (.p 1 0)),(9,.c (ci i))] a w)(k':∀l' L' d' b' w2 κ' S',Pw l' L' r d' b' w2 κ' P S' K (t+1)->F3 P.kb L κ w L' κ' w2->iv J' true true (ep l') (X J' f' l' d' b' 0) (G (fr.finish (Bo true)) cs) w2):iv J' true true (ep l) (X J' f' l Inb nG 0) (G ((base 9).at a FJ) (fr::cs)) w:=by
 have gd:∀d,Grown w (w.at d):=λd=>⟨af _,λ_ _=>rfl,mX⟩
 have gn:∀ {d w'},Grown (w.at d) w'->Grown w w':=λg=>⟨g.size,g.old,mX⟩
 have mB:=λd=>ZK (Final:=f') (h.co.at d) h.nS ((h.lm i E).grown (gd d)) h.pos s R A B;have rB:=λw' (h':Pw l L r Inb nG w' κ P S K t)=>LJ (main:=true) (h'.pm.rl i E) h'.fit h'.co.soft s R A B n'
 by_cases o':1<=R/\R<=7
 case neg =>
  have W':R<1\/7<R:=by omega
  refine FZ (e0:=2) h h8 E M (λi' j' y d=>mB d i' j' (λ_ w' g=>y w' (gn g)) (λh1 h2=>Za) (λh1 h2=>Za) λh1 h2=>Za) (λw' h'=>λStop fr cs hx=>rB w' h' Stop fr cs λx w2 hP=>hx x w2 ?_) λw2 hP k8=>k' _ _ _ _ w2 κ S hP k8
  grind
 cases hb:oE s P.n with
 | false =>
  have no:∀q:Nat,s=q->q<P.n->False:=λq e hq=>by simp[oE]at hb;omega
  refine FZ (e0:=3) h h8 E M (λi' j' y d=>mB d i' j' (λh1=>Za) (λ_ _ _ w' g=>y w' (gn g)) (λ_ _ p o e hp=>(no p e hp).elim) λ_ _ p e hp=>(no p e hp).elim) (λw' h'=>λStop fr cs hx=>rB w' h' Stop fr cs λx w2 hP=>hx x w2 ?_) λw2 hP k8=>k' _ _ _ _ w2 κ S hP k8
  grind
 | true =>
  simp only[oE,aB,decide_eq_true_eq]at hb;obtain⟨p,rfl⟩:=cT hb.1;have hp:p<P.n:=by omega
  have p':¬(decide (0<=(p:Int))&&decide ((p:Int)<P.n))=false:=by simp;omega
  have F':¬oE (p:Int) P.n=false:=by simp[oE];omega
  rcases h.tie i p E hp with⟨q',X'⟩|⟨v,ts,hU,hL,hsl,hts,tie⟩
  .refine LM (e0:=0) (Mid:=λl' d' b' w'=>∃(C:Ctx) (H:y6),l'=C.o::l/\b'=nG+1/\C.slot=(p:Int)/\C.kd=R/\C.A=A/\C.B=B/\C.o.gid=nG/\Co P.kb (C.o::l) K (ai L nG (J ⟨C,m7 C p,[C.o.bo],H,[R8 C.o,bot]⟩)) r d' (nG+1) w'/\(∀k,Mn P.kb L w k->k≠(P.lb i).bu->Mn P.kb (ai L nG (J ⟨C,m7 C p,[C.o.bo],H,[R8 C.o,bot]⟩)) w' k/\w'.heap[k]?=w.heap[k]?)/\oD P.kb (C.o::l) (ai L nG (J ⟨C,m7 C p,[C.o.bo],H,[R8 C.o,bot]⟩)) w' (P.lb i) P.n (P.B0 i) (rO (S.U i) p C.o) (S.V i) (S.N i) (S.Xs i))
    (Q:=λl' d' b' w2=>∃L' S',Pw l' L' r d' b' w2 κ P S' K (t+1)/\F3 P.kb L κ w L' κ w2) h.pm h8 E M (λi' j' y d=>mB d i' j' (λh1=>Za) (λ_ _ e=>absurd e p') (λ_ _ q o e hq hU=>?_) λ_ _ q e hq _ w' C H d' c1 c2 c3 c4 c5 c6 c7 c8 c9=>?_) (λl' d' b' w' z=>?_) (λl' d' b' w' w1 z F=>?_) λl' d' b' w2 w3 hQ F=>?_
   .grind
   .obtain rfl:p=q:=by omega
    exact y _ d' _ w' ⟨C,H,Z,Z,c1,c2,c3,c4,c6,c7,λk y=>c8 k ⟨y.lt,y.nf,y.ns,y.nd,y.own⟩,c9⟩
   .obtain⟨C,H,rfl,rfl,c1,c2,c3,c4,c6,c7,c8,c9⟩:=z;let⟨g,un⟩:=h.pg.begun (C:=C) E hp q' Z (cz.2 Z) c6 c7 c8 c9;exact g.left h.pm h8 λk h0 W=>⟨Z,(un k (h.mw k h0).mn W).2⟩
   .obtain⟨C,H,rfl,rfl,c1,c2,c3,c4,c6,c7,c8,c9⟩:=z;let⟨g,un⟩:=h.pg.begun (C:=C) E hp q' Z (cz.2 Z) c6 c7 c8 c9;generalize s':(⟨C,m7 C p,[C.o.bo],H,[R8 C.o,bot]⟩:Lv)=v0 at *;have hC:v0.C=C:=by rw[←s']
    have hS:v0.S=m7 C p:=by rw[←s']
    have g1:=g.hJ (κ':=κ) F (λk y=>(by cases y)) (λ_ _=>rfl) λk y=>(g.mw k y).grow F.size;have e1:∀k,Mn P.kb L w k->κ k<300->w1.heap[k]?=w.heap[k]?:=λk z W=>(F.old k (un k z W).1.lt Zc).trans (un k z W).2;have m':Pm (ep (C.o::l)) κ w1 P S K:=h.pm.move λk y z=>⟨Z,e1 k (h.mw k z.1).mn z.2,(g.mw k z.1).sf⟩
    intro Stop fr cs hx;refine LJ (m'.rl i E) F.fit g1.co.soft p R A B n' Stop fr cs λx w2 hP=>hx x w2 ?_;rcases hP with⟨h1,_⟩|⟨_,_,⟨e,_⟩|⟨q,e,hq,⟨e2,_⟩|⟨_,e2,F2,Q'⟩⟩⟩
    .omega
    .exact absurd e F'
    .grind
    obtain rfl:p=q:=by omega
    have ku:∀k,k∈[(P.rb i).bu,(P.rb i).bt]->oW i (κ k):=λk y=>by
     simp only[ae,aj,or_false]at y;rcases y with rfl|rfl
     .rw[(m'.rl i E).ru.2];exact rD Za
     .rw[(m'.rl i E).rt.2];exact rD Za
    have kw:∀k,k∈[(P.rb i).bu,(P.rb i).bt]->κ k≠0/\κ k<300/\κ k≠8/\κ k≠3/\κ k≠4/\κ k≠5:=λk y=>by have:=ku k y;unfold oW at this;omega
    have g2:=g1.hJ (κ':=κ) F2 (λk y _=>⟨g1.mw k (kw k y).1,(kw k y).2.1⟩) (λ_ _=>rfl) λk y=>(g1.mw k y).grow F2.size;have R':=m'.Nu (U':=nM S.U i (rO (S.U i) p C.o)) E F2 ku Q';have z':∀k,Mn P.kb L w k->κ k<300->k∉[(P.rb i).bu,(P.rb i).bt]->w2.heap[k]?=w.heap[k]?:=λk z W hn=>(F2.old k (D9 z.lt (e1 k z W)) hn).trans (e1 k z W);have et:∀j q,¬(j=i/\q=p)->nM S.ts i (pd (S.ts i) p (J (.fresh R A B))) j q=S.ts j q/\nM S.U i (rO (S.U i) p C.o) j q=S.U j q:=λj q e=>by
     unfold nM pd rO
     by_cases e1:j=i
     .subst e1
      grind
     .simp[e1]
    refine⟨e2,?_,_,_,g2.pw (t:=t+1) R' (λj q hj hq=>?_) (λj q hj hq=>Zh (h.tN j q hj hq) Za) (λj q T hj hq e=>?_) (λc hc=>Zh (h.tB c hc) Za) h.xi,λk z y=>?_⟩
    .have u:∀ {k c},κ k=c->c≠0->c<300->(c=3\/c=4\/c=5\/c=8)->ep (C.o::l) k=0/\w2.heap[k]?=w.heap[k]?:=λ{k c} e h0 W hc=>⟨(g.mw k (by rw[e];exact h0)).sf,z' k (h.mw k (by rw[e];exact h0)).mn (by rw[e];exact W) λy=>by grind⟩
     exact⟨F2.fit,g2.co.soft,u h.pm.rw.2 Zb Zb Zb,u h8 Zb Zb Zb,u h.pm.r4.2 Zb Zb Zb,u h.pm.r5.2 Zb Zb Zb⟩
    .show(nM S.U i (rO (S.U i) p C.o) j q=G'/\nM S.ts i (pd (S.ts i) p (J (.fresh R A B))) j q=G')\/∃(u:Lv) (t':py),nM S.U i (rO (S.U i) p C.o) j q=J u.C.o/\_/\_/\nM S.ts i (pd (S.ts i) p (J (.fresh R A B))) j q=J t'/\_
     by_cases e:j=i/\q=p
     .obtain⟨rfl,rfl⟩:=e;exact .inr ⟨v0,.fresh R A B,by rw[hC];simp[nM,rO],by rw[hC,c6,aH],by rw[hC];exact c1,by simp[nM,pd],by rw[hC];exact c2,by rw[hC];exact c3,by rw[hC];exact c4,by rw[hS,hC],o'.1,o'.2⟩
     .rw[(et j q e).1,(et j q e).2];rcases h.tie j q hj hq with⟨b1,b2⟩|⟨u,t',b1,b2,b3,b4,b5⟩
      .grind
      .exact .inr ⟨u,t',b1,by rw[az _ _ λeg=>by have:=(h.co.gid _ u b2).2.2;omega];exact b2,b3,b4,b5⟩
    .have e:nM S.ts i (pd (S.ts i) p (J (.fresh R A B))) j q=J (.begun T):=e
     by_cases e1:j=i/\q=p
     .obtain⟨rfl,rfl⟩:=e1;simp[nM,pd]at e
     .rw[(et j q e1).1]at e;exact Zh (h.tL j q T hj hq e) Za
    .have W:κ k<300:=by omega
     exact⟨Z,((un k z W).1.grow F.size).grow F2.size,z' k z W λhk'=>by grind⟩
   .let⟨L',S',V',k8⟩:=hQ;exact k' _ L' _ _ w3 κ S' (V'.grown F) (k8.hJ F)
  .refine FZ (e0:=14) h h8 E M (λi' j' y d=>mB d i' j' (λh1=>Za) (λ_ _ e=>absurd e p') (λ_ _ q o e hq _ w' g=>y w' (gn g)) λ_ _ q e hq hn=>?_) (λw' h'=>λStop fr cs hx=>rB w' h' Stop fr cs λx w2 hP=>hx x w2 ?_) λw2 hP k8=>k' _ _ _ _ w2 κ S hP k8
   all_goals grind
end
def aCp:List bh:=match Tryz.f9.body with
 | some (.seq _ (.seq _ (.seq _ (.seq _ (.seq _ (.seq (.seq _ (.block b (.seq _ (.cond _ _ (.seq _ (.cond _ _ (.seq _ (.cond _ _ (.seq _ (.cond _ x _)))))))))) e))))))=>[.code x,.inBlock b,.code e]
 | _=>[]
section
variable{A:Int}
theorem Pw.ended(h:Pw l L r Inb nG w κ P S K t)(o:i<2)(g:Pg l L' r d' nG w1 κ P (nM S.U i λ_=>G') S.V S.N S.Xs K)(E:∀g v,L g=J v->(∀p,p<P.n->S.U i p≠J v.C.o)->L' g=J v)(y:Pm (ep l) κ w1 P S K)(F:nC (ep l) [(P.rb i).bu] w1 w2)(H:oh (ep l) κ i w2 (P.rb i) P.B.b P.n (λ_=>G') (S.D i) (S.N i) (S.Xs i)):∃W,Pw l L' r d' nG w2 κ P W K (t+1):=by
 have z:∀k,k∈[(P.rb i).bu]->oW i (κ k):=λk m=>by
  cases Zi m;rw[(y.rl i o).ru.2];exact rD Za
 have G:=g.hJ (κ':=κ) F (λk m _=>by have:=z k m;unfold oW at this;exact⟨g.mw k Za,by omega⟩) (λ_ _=>rfl) λk m=>(g.mw k m).grow F.size;refine⟨_,G.pw (S:={ S with ts:=nM S.ts i λ_=>G',U:=nM S.U i λ_=>G' }) (t:=t+1) (y.Nu o F z H) (λj q d f=>?_) (λj q d f=>Zh (h.tN j q d f) Za) (λj q T d f e=>?_) (λc M=>Zh (h.tB c M) Za) h.xi⟩
 .show(nM S.U i (λ_=>G') j q=G'/\nM S.ts i (λ_=>G') j q=G')\/∃(u:Lv) (x:py),nM S.U i (λ_=>G') j q=J u.C.o/\_/\_/\nM S.ts i (λ_=>G') j q=J x/\_
  by_cases e:j=i
  .subst e;exact .inl ⟨by rw[vr],by rw[vr]⟩
  .rw[wK e,wK e];rcases h.tie j q d f with X|⟨u,x,C,b2,b3,b4,b5⟩
   .exact .inl X
   .exact .inr ⟨u,x,C,E _ u b2 λp hp hU=>e (h.one j q i p _ _ d o f hp C hU Z).1,b3,b4,b5⟩
 .have e:nM S.ts i (λ_=>G') j q=J (.begun T):=e;unfold nM at e;split at e
  .cases e
  .exact Zh (h.tL j q T d f e) Za
theorem b6X(h:Pw l L r Inb nG w κ P S K t)(h8:κ b3=8)(o:i<2)(M:fx (ep l) [] 2 w [(P.bw,0),(b3,0)] (wA P ka s cl a0 a1 a2 R A B ot) 160 [(0,.c (.p 0 0)),(3,.c (.p 1 0)),(9,.c (ci i))] a w)(h':∀L' d' w2 F,Pw l L' r d' nG w2 κ P F K (t+1)->F3 P.kb L κ w L' κ w2->iv J' true true (ep l) (X J' f' l d' nG 0) (G (fr.finish (Bo true)) cs) w2):iv J' true true (ep l) (X J' f' l Inb nG 0) (G ((base 9).at a aCp) (fr::cs)) w:=by
 have pm:=h.pm;refine ia 200 2 [[Po (J (O ((P.lb i).bl) 0 G'))]] M Z Z ⟨⟨mX,by omega⟩,⟨pm.r4.1.lt,by simp,by simpa using(pm.l i o).1⟩⟩ λa1 w1 y=>?_;have f:=h.grown y.hJ;refine wX (vs:=[Po (J (O ((P.lb i).bl) 0 G'))]) (Post:=λx w' e=>x=.tuple #[]/\∃L' d',e=(ep l,X J' f' l d' nG 0)/\Pg l L' r d' nG w' κ P (nM S.U i λ_=>G') S.V S.N S.Xs K/\(∀k,Mn P.kb L w1 k->κ k<300->Mn P.kb L' w' k/\w'.heap[k]?=w1.heap[k]?)/\∀g v,L g=J v->(∀p,p<P.n->S.U i p≠J v.C.o)->L' g=J v) y (λi' j' c=>λd=>.stop (Kf (f.co.at d) ((f.lm i o).grown ⟨af _,λ_ _=>rfl,mX⟩) i' j' λL' d' w' c1 c2 c3 H=>?_)) Z Z Z mD Z Z Z Z λx w2 e T=>?_
 .let⟨g,z⟩:=f.pg.cancel o c1 c2 (λk c=>c3 k ⟨c.lt,c.nf,c.ns,c.nd,c.own⟩) H.1 H.2;exact tF (c _ w' (ep l,X J' f' l d' nG 0) ⟨Z,L',d',Z,g,z,H.2⟩)
 .obtain⟨rfl,L',d',rfl,g,z,hL⟩:=T;have q:=g.left f.pm h8 λk h0 m=>⟨Z,(z k (f.mw k h0).mn m).2⟩
  have n':=db f.pm.rw.1.lt (db (F7.lt (y.bl 1 Zc)) (db f.pm.r4.1.lt f.pm.r5.1.lt));have W:=y.got (D:=151) Z (.t []) (λx hx=>(by cases hx)) (x:=.tuple #[]) Z Z;have M2:=W.next q.fit q.new (DU q.bw q.b3) W.lv W.wf;refine ia 200 2 [[Po (J (O ((P.rb i).bl) 0 G'))]] M2 Z Z ⟨⟨mX,by omega⟩,⟨D9 f.pm.r5.1.lt q.wm.2,by simp,by simpa using(Zf (w:=w1) (a:=(O P.wm i G')) q.wm.2).trans (f.pm.l i o).2⟩⟩ λa3 w3 u=>?_;have g3:=g.hJ (κ':=κ) u.hJ (λk c=>(by cases c)) (λ_ _=>rfl) λk c=>(g.mw k c).grow u.hJ.size;have e3:∀k,Mn P.kb L w1 k->κ k<300->w3.heap[k]?=w1.heap[k]?:=λk j m=>(u.old k (z k j m).1.lt Zc).trans (z k j m).2;have e':Pm (ep l) κ w3 P S K:=f.pm.move λk c j=>⟨Z,e3 k (f.mw k j.1).mn j.2,(g.mw k j.1).sf⟩
  refine A4 u (Vt (e'.rl i o) u.fit g3.co.soft) Z Z Z Tryz.func25 Z Z Z Z Z λx w4 T=>?_;obtain⟨rfl,C,k'⟩:=T;let⟨F,g'⟩:=h.ended o g3 hL e' C k';have M4:=(u.got (D:=159) Z (.t []) (λx hx=>(by cases hx)) (x:=.tuple #[]) Z Z).nQ [] Z C.fit g'.co.soft;refine ia 200 0 [] M4 Z Z mX λa5 w5 M5=>A9 M5 dO Z Z Z<|h' L' d' w5 F (g'.grown M5.hJ) (F3.hJ (λk j c=>?_) M5.hJ);have E:=j.grow y.hJ.size;have m:κ k<300:=by omega
  refine⟨Z,((z k E m).1.grow u.hJ.size).grow C.size,(C.old k (D9 E.lt (e3 k E m)) λm'=>?_).trans ((e3 k E m).trans (y.old k j.lt Zc))⟩;cases Zi m';have:=(e'.rl i o).ru.2
  grind
end
def Qv:List bh:=match Tryz.f9.body with
 | some (.seq _ (.seq (.seq _ (.block b (.seq _ (.cond _ (.seq r x) _)))) e))=>[.code r,.code x,.inBlock b,.code e]
 | _=>[]
section
variable{A:Int}{f:Nat->Nat->Option ng}{o:Nat->Nat->Vu}{N:Nat->Nat->Nat}{m:Nat->Nat->List Vu}
theorem Qs{I:Kb}(j:Co I l K L r Inb nG w)(s n a b c:Int):oL true (ep l) 16 #[Po (J (O I.bk 0 G')),vi s,vi n,.agg #[vi a,vi b,vi c]] w λx w'=>x=.tuple #[vi (i5 K s n a b c).n,vi (i5 K s n a b c).e]/\Co I l (i5 K s n a b c).K L r Inb nG w'/\Kp I L w L w' :=
 Bx λfr cs d=>(b7U j s n a b c fr cs d).mono (λ_ _ _ h=>h) λg w' e=>⟨_,e.1,Z,e.2⟩
theorem Pg.call(h:Pg l L r Inb nG w κ P f o N m K)(e:Co P.kb l K' L r Inb nG w')(c:Kp P.kb L w L w'):Pg l L r Inb nG w' κ P f o N m K':=by
 have d:=h.co.tP e (c _ h.co.Fh).2;exact⟨e,d.2.1.trans h.nS,λj g=>(h.lm j g).same c,h.lc,λk q=>(h.mw k q).kp c,h.one,h.all,by rw[d.1,d.2.2];exact h.sz,h.pos⟩
theorem Pw.called{c:Int}{r':Rk}(h:Pw l L r Inb nG w κ P S K t)(g:Pg l L r Inb nG w1 κ P S.U S.V S.N S.Xs (i5 K s cl a0 a1 a2).K)(u:Pm (ep l) κ w1 P S K)(G:pt (ep l) w2 P.B r')(M:Rel (i5 K s cl a0 a1 a2).K r')(X:r'.nD=S.rr.nD)(a':Fit (ep l) w2)(hz:w1.heap.size<=w2.heap.size)(H:∀j,j<w1.heap.size->¬P.B.is S.rr j->w2.heap[j]?=w1.heap[j]?):∃S',Pw l L r Inb nG w2 κ P S' (i5 K s cl a0 a1 a2).K (t+1):=by
 have F:nC (ep l) (oN κ w1.heap.size (pe 0 0)) w1 w2:=⟨hz,λk d hn=>H k d λy=>hn (A6.2 ⟨d,rS.2 (.inl (u.Rc k y))⟩),a'⟩;have e':oh (ep l) κ 0 w2 (P.rb 0) P.B.b P.n (S.ts 0) (S.D 0) (S.N 0) (S.Xs 0):=(u.rl 0 Zb).same λk d z=>⟨Z,H k d λy=>by have:=u.Rc k y;unfold oW at z;omega⟩
 have W:=u.turn (U':=S.U) (V':=S.V) (i:=0) (p:=0) (κ':=κ) Zb Zb F (λ_ _=>rfl) G M (yQ h.pm.rX.i s cl a0 a1 a2) X e';simp only[KH]at W
 have g2:=g.turn (κ':=κ) (i:=0) (p:=0) Zb Zb F (λ_ _=>rfl) λk d=>.inl (by
  cases e:κ k with
  | zero=>rfl
  | succ x=>have:=(g.mw k (by grind)).mn.lt;omega)
 exact⟨_,Pg.pw (S:={ S with rr:=r' }) g2 W h.tie (λj q C E=>Zh (h.tN j q C E) Za) (λj q T C E e=>Zh (h.tL j q T C E e) Za) (λc z=>Zh (h.tB c z) Za) h.xi⟩
theorem c3g(h:Pw l L r Inb nG w κ P S K t)(h8:κ b3=8)(n':-9223372036854775808<=cl/\cl<9223372036854775808)(M:fx (ep l) [] 2 w [(P.bw,0),(b3,0)] (wA P ka s cl a0 a1 a2 R A B ot) 160 [(0,.c (.p 0 0)),(3,.c (.p 1 0))] a w)(o':∀w2 F K',Pw l L r Inb nG w2 κ P F K' (t+1)->F3 P.kb L κ w L κ w2->iv J' true true (ep l) (X J' f' l Inb nG 0) (G (fr.finish (Bo true)) cs) w2):iv J' true true (ep l) (X J' f' l Inb nG 0) (G ((base 9).at a Qv) (fr::cs)) w:=by
 have z:=h.pm;have p':b3<w.heap.size:=F7.lt (M.bl 1 Zc);have q':=db z.rw.1.lt (db p' (db z.r4.1.lt z.r5.1.lt));generalize hO:i5 K s cl a0 a1 a2=d;have cm:=Qs h.co s cl a0 a1 a2;rw[hO]at cm;refine Cv (r:=.t [.c (ci d.n),.c (ci d.e)]) (svs:=[.c (.v (Po (J (O P.kb.bk 0 G')))),.c (ci s),.c (ci cl),.g [ci a0,ci a1,ci a2]]) (j:=10) [] [] (λw' e'=>e'=(ep l,X J' f' l Inb nG 0)/\Co P.kb l d.K L r Inb nG w'/\Kp P.kb L w L w') M Z (λ_=>rfl) (λ_=>rfl) Z Zd mX Z Z Z Tryz.func16 Z Z (λ_=>rfl) (λx T=>?_) (λh' i' y=>cm _ h' i' λx w' hq=>?_) (λw' e' g=>?_) λw' e' a' g lv wf=>?_
 .simp only[ae,aj,or_false]at T;rcases T with rfl|rfl<;>trivial
 .obtain⟨rfl,j,h2⟩:=hq;exact y w' _ ⟨Z,j,h2⟩
 .obtain⟨rfl,j,h2⟩:=g;exact⟨Eh (h2 _ (h.mw P.bw (by rw[z.rw.2];decide)).mn).2 (h2 _ (h.mw b3 (by rw[h8];decide)).mn).2,λk y=>(by cases y)⟩
 .obtain⟨rfl,j,W⟩:=g;have g1:=h.pg.call j W;have un:∀k,κ k≠0->w'.heap[k]?=w.heap[k]?:=λk H=>(W k (h.mw k H).mn).2;have q:=g1.left z h8 λk H _=>⟨Z,un k H⟩
  have M1:=(M.next q.fit q.new (DU q.bw q.b3) lv wf).oo 2 [0,3,5,6] Z Z;refine ia 1 2 [] M1 Z Z mX λy2 w2 C=>?_;have q2:=q.hJ C.hJ q';have g2:=g1.hJ (κ':=κ) C.hJ (λk y=>(by cases y)) (λ_ _=>rfl) λk y=>(g1.mw k y).grow C.hJ.size;have j':Pm (ep l) κ w2 P S K:=z.move λk y g=>⟨Z,(C.old k (D9 y (un k g.1)) Zc).trans (un k g.1),(h.mw k g.1).sf⟩
  have cr:=Kz (main:=true) C.fit j'.R j'.rX s cl a0 a1 a2 n';rw[hO]at cr;refine Cv (r:=.t [.c (ci d.n),.c (ci d.e)]) (svs:=[.c (.v (Po (J (O P.B.b 0 G')))),.c (ci s),.c (ci cl),.g [ci a0,ci a1,ci a2]]) (j:=10) [] [] (λE e3=>e3=(ep l,X J' f' l Inb nG 0)/\(∃F,Pw l L r Inb nG E κ P F d.K (t+1))/\pV P b3 w l E/\F3 P.kb L κ w L κ E) C.nm Z (λ_=>rfl) (λ_=>rfl) Z Zd mX Z Z Z gh Z Z (λ_=>rfl) (λx T=>?_) (λh' i' y=>cr _ h' i' λx E hq=>?_) (λE e3 g=>?_) λE e3 a3 g lv wf=>?_
  .simp only[ae,aj,or_false]at T;rcases T with rfl|rfl<;>trivial
  .obtain⟨rfl,⟨r',R',s',t'⟩,k',hz,m'⟩:=hq;subst hO;let⟨F,g'⟩:=h.called (c:=0) g2 j' R' s' t' k' hz m';have ub:∀k,Mn P.kb L w k->κ k≠1->E.heap[k]?=w.heap[k]?:=λk g j=>by
    have m1:=(W k g).1;rw[m' k (Zg m1.lt C.hJ.size) λhB=>j (z.Rc k hB),C.old k m1.lt Zc,(W k g).2]
   have u:∀ {k c},κ k=c->c≠0->c≠1->ep l k=0/\E.heap[k]?=w.heap[k]?:=λ{k c} e H j=>⟨(h.mw k (by rw[e];exact H)).sf,ub k (h.mw k (by rw[e];exact H)).mn (by rw[e];exact j)⟩
   exact y E _ ⟨Z,⟨F,g'⟩,⟨k',g'.co.soft,u z.rw.2 Zb Zb,u h8 Zb Zb,u z.r4.2 Zb Zb,u z.r5.2 Zb Zb⟩,λk g y'=>⟨Z,(((W k g).1.grow C.hJ.size).grow hz),ub k g Za⟩⟩
  .obtain⟨rfl,_,j,_⟩:=g;exact⟨Eh (j.bw.2.trans q2.bw.2.symm) (j.b3.2.trans q2.b3.2.symm),λk y=>(by cases y)⟩
  .obtain⟨rfl,⟨F,g'⟩,j,k8⟩:=g;have M3:=(C.re lv wf).nQ [5,6,7,8] Z j.fit j.new;refine ia 6 0 [] M3 Z Z mX λa4 w4 M4=>?_;have M5:=M4.oo 0 [51,6,8] Z Z;rw[show(d.n==d.n)=true by simp]at M5;refine ia 200 0 [] M5 Z Z mX λa6 w6 M6=>A9 M6 dO Z Z Z ?_;show iv J' true true (ep l) _ (G (fr.finish (Bo (d.e==d.e))) cs) w6;rw[show(d.e==d.e)=true by simp];exact o' w6 F d.K (g'.grown M6.hJ) (k8.hJ M6.hJ)
def aSp:List bh:=match Tryz.f9.body with
 | some (.seq _ (.seq (.seq _ (.block b (.seq _ (.cond _ _ (.seq _ (.cond _ x _)))))) e))=>[.code x,.inBlock b,.code e]
 | _=>[]
theorem Zz(h:Pw l L r Inb nG w κ P S K t)(q:t<=1000000000000)(M:fx (ep l) [] 2 w [(P.bw,0),(b3,0)] (wA P ka s cl a0 a1 a2 R A B ot) 160 [(0,.c (.p 0 0)),(3,.c (.p 1 0))] a w)(u:∀w2 κ' d,Pw l L r Inb nG w2 κ' P d K (t+1)->F3 P.kb L κ w L κ' w2->iv J' true true (ep l) (X J' f' l Inb nG 0) (G (fr.finish (Bo true)) cs) w2):iv J' true true (ep l) (X J' f' l Inb nG 0) (G ((base 9).at a aSp) (fr::cs)) w:=by
 refine ia 200 2 [] M Z Z mX λa1 w1 c=>A4 c (IU (h.grown c.hJ) q) Z Z Z jy Z Z Z Z Z λx w2 y=>?_;obtain⟨rfl,κ',d,e,z⟩:=y;have C:=(c.got (D:=59) Z (.c (.v (Bo true))) mX (x:=Bo true) Z Z).nQ [59] Z e.fit e.co.soft;refine ia 200 0 [] C Z Z mX λa3 E g=>A9 g dO Z Z Z<|u E κ' d (e.grown g.hJ) (F3.hJ (λk j F=>?_) g.hJ);let⟨H,T,W⟩:=z k (j.grow c.hJ.size) F;exact⟨H,T,W.trans (c.old k j.lt Zc)⟩
def Tm:List bh:=match Tryz.f9.body with
 | some (.seq _ (.seq _ (.seq _ (.seq _ (.seq _ (.seq (.seq _ (.block b (.seq _ (.cond _ _ (.seq _ (.cond _ _ (.seq _ (.cond _ x _)))))))) e))))))=>[.code x,.inBlock b,.code e]
 | _=>[]
theorem Xv(h:Pw l L r Inb nG w κ P S K t)(q:t<=1000000000000)(u:i<2)(M:fx (ep l) [] 2 w [(P.bw,0),(b3,0)] (wA P ka s cl a0 a1 a2 R A B ot) 160 [(0,.c (.p 0 0)),(3,.c (.p 1 0)),(9,.c (ci i))] a w)(y:∀w2 κ' d,Pw l L r Inb nG w2 κ' P d K (t+1)->F3 P.kb L κ w L κ' w2->iv J' true true (ep l) (X J' f' l Inb nG 0) (G (fr.finish (Bo true)) cs) w2):iv J' true true (ep l) (X J' f' l Inb nG 0) (G ((base 9).at a Tm) (fr::cs)) w:=by
 refine ia 200 2 [] M Z Z mX λa1 w1 c=>A4 c (Ko (h.grown c.hJ) q u s) Z Z Z jx Z Z Z Z Z λx w2 z=>?_;obtain⟨rfl,κ',d,e,C⟩:=z;have E:=(c.got (D:=141) Z (.c (.v (Bo true))) mX (x:=Bo true) Z Z).nQ [141] Z e.fit e.co.soft;refine ia 200 0 [] E Z Z mX λa3 F g=>A9 g dO Z Z Z<|y F κ' d (e.grown g.hJ) (F3.hJ (λk j H=>?_) g.hJ);let⟨T,W,e3⟩:=C k (j.grow c.hJ.size) H;exact⟨T,W,e3.trans (c.old k j.lt Zc)⟩
end
def aLp:List bh:=match Tryz.f9.body with
 | some (.seq _ (.seq _ (.seq _ (.seq _ (.seq _ (.seq (.seq _ (.block b (.seq _ x))) e))))))=>[.code x,.inBlock b,.code e]
 | _=>[]
section
variable{A:Int}
theorem zU(h:e=f):(e==f)=true:=by simp[h]
theorem yy(h:e≠f):(e==f)=false:=by simp[h]
theorem F3.grow{I:Kb}{L L':Nat->Option Lv}{κ κ':Nat->Nat}{w w1 w2:Wd}{sft:Nat->Nat}(F:nC sft [] w w1)(k:F3 I L κ w1 L' κ' w2):F3 I L κ w L' κ' w2:=λq c d=>by
 let⟨e,f,g⟩:=k q (c.grow F.size) d;exact⟨e,f,g.trans (F.old q c.lt Zc)⟩
theorem Mx(h:Pw l L (r+1) Inb nG w κ P S K t)(u:t<=1000000000000)(o:κ b3=8)(m:i<2)(F:-9223372036854775808<=R/\R<9223372036854775808)(M:fx (ep l) [] 2 w [(P.bw,0),(b3,0)] (wA P ka s cl a0 a1 a2 R A B ot) 160 [(0,.c (.p 0 0)),(3,.c (.p 1 0)),(9,.c (ci i)),(69,.c (ci ka)),(70,.c (.v (Bo (ka==2))))] a w)(j:∀l' L' d' b' w2 κ' k K',Pw l' L' r d' b' w2 κ' P k K' (t+1)->F3 P.kb L κ w L' κ' w2->iv J' true true (ep l') (X J' f' l' d' b' 0) (G (fr.finish (Bo true)) cs) w2):iv J' true true (ep l) (X J' f' l Inb nG 0) (G ((base 9).at a aLp) (fr::cs)) w:=by
 by_cases x:ka=2
 .refine nV M Z (zU x)<|ia 1 2 [] M Z Z mX λa1 w1 e=>b9V ((h.grown e.hJ).less) o m F (e.nm.oo 2 [0,3,9] Z Z) λl' L' d' b' w2 κ' k f g=>j _ _ _ _ _ _ _ _ f (g.grow e.hJ)
 refine nR M Z (yy x)<|ia 200 2 [] M Z Z mX λa1 w1 e=>?_
 by_cases y:ka=3
 .refine nV e Z (zU y)<|ia 1 2 [] e Z Z mX λa2 w2 c=>?_;have d:=c.nm.nY 2 [0,3,9] [(0,2),(1,1)] Z Z Z;refine SA (h.grown c.hJ) u o (d.bl 1 Zc) ?_ m d λL' d' z κ' k K' f g=>j _ _ _ _ _ _ _ _ f (g.grow c.hJ);have:=d.ld 1 1 Z;exact this
 refine nR e Z (yy y)<|ia 200 2 [] e Z Z mX λa2 w2 c=>?_
 by_cases C:ka=4
 .refine nV c Z (zU C)<|Xv ((h.grown c.hJ).less) u m (c.nm.oo 2 [0,3,9] Z Z) λz κ' k f g=>j _ _ _ _ _ _ _ _ f (g.grow c.hJ)
 refine nR c Z (yy C)<|ia 200 2 [] c Z Z mX λT z d=>?_
 by_cases E:ka=5
 .refine nV d Z (zU E)<|b6X ((h.grown d.hJ).less) o m (d.nm.oo 2 [0,3,9] Z Z) λL' d' H k f g=>j _ _ _ _ _ _ _ _ f (g.grow d.hJ)
 refine nR d Z (yy E)<|ia 200 2 [] d Z Z mX λW H q=>A9 q dO Z Z Z<|j _ _ _ _ _ κ S K (((h.grown q.hJ).less).later Za) ((F3.refl _ _ _ _).grow q.hJ)
theorem d1l(h:Pw l L (r+1) Inb nG w κ P S K t)(E:t<=1000000000000)(h':-9223372036854775808<=cl/\cl<9223372036854775808)(T:-9223372036854775808<=R/\R<9223372036854775808)(q:∀l' L' d' b' w2 κ' f K',Pw l' L' r d' b' w2 κ' P f K' (t+1)->F3 P.kb L κ w L' κ' w2->iv J' true true (ep l') (X J' f' l' d' b' 0) (G (fr.finish (Bo true)) cs) w2):iv J' true true (ep l) (X J' f' l Inb nG 0) (G (ay J' 9 #[Po (J (O P.bw 0 G')),.agg #[vi ka,vi s,vi cl,vi a0,vi a1,vi a2,vi R,vi A,vi B,Bo ot]] .normal) (fr::cs)) w:=by
 have u:=h.pm;refine AX (ρ:=[(P.bw,0)]) (W:=[]) (ro:=1) (m:=[(0,0,.v (Po (J (O P.kb.bk 0 G')))),(0,1,.v (Po (J (O P.B.b 0 G')))),(0,2,.v (Sc (J (O P.wl 0 G')) 2 P.cl)),(0,3,.v (Sc (J (O P.wm 0 G')) 2 P.cm)),(0,4,.v (Po (J (O P.bb 0 G'))))]) (sz:=160) [.c (.p 0 0),.g (PO ka s cl a0 a1 a2 R A B ot)] ⟨λe W=>?_,λi hi=>?_,λi j hi hj j'=>?_,λi y h2=>?_,h.fit,h.co.soft⟩ (λs hs=>?_) dO Z Z Z λa M=>?_
 .simp only[ae,aj,or_false]at W;rcases W with rfl|rfl|rfl|rfl|rfl<;>refine⟨cJ,mX,?_⟩
  .exact u.w0
  .exact u.w1
  .exact u.w2
  .exact u.w3
  .exact u.w4
 .obtain rfl:i=0:=Zm hi;exact u.rw.1
 .grind
 .grind
 .simp only[ae,aj,or_false]at hs;rcases hs with rfl|rfl
  .exact cJ
  .intro x hx;simp only[PO,ae,aj,or_false]at hx;rcases hx with rfl|rfl|rfl|rfl|rfl|rfl|rfl|rfl|rfl|rfl<;>trivial
 refine sw 200 1 [] M Z Z mX λa1 w1 b3 z=>?_;have g':w.heap.size<=b3:=(z.own 1 (af _) Zc).resolve_left Zc;have i':b3<w1.heap.size:=F7.lt (z.bl 1 Zc);have y:=(h.grown z.hJ).Ac (k:=b3) (h.off g') (h.co.new g' i');have F:ai κ b3 8 b3=8:=aH _ _ _;have c:=z.nY 2 [0,3,17,18] [(0,0),(0,1),(0,2),(0,3),(0,4),(1,0),(1,1),(1,2),(1,3),(1,4),(1,5),(1,6),(1,7),(1,8),(1,9)] Z Z Z;replace c:=c.next c.fit y.co.soft (DU ⟨(c.bl 0 Zc).2,Z⟩ ⟨(c.bl 1 Zc).2,Z⟩) c.lv c.wf;replace q:∀l' L' d' b' w2 κ' f K',Pw l' L' r d' b' w2 κ' P f K' (t+1)->F3 P.kb L (ai κ b3 8) w1 L' κ' w2->iv J' true true (ep l') (X J' f' l' d' b' 0) (G (fr.finish (Bo true)) cs) w2:=λl' L' d' b' w2 κ' f K' g m=>q l' L' d' b' w2 κ' f K' g λk H hk=>by
  have ne:k≠b3:=λe=>by have:=H.lt;omega
  let⟨e1,e2,e3⟩:=m k (H.grow z.hJ.size) (by rw[az _ _ ne];exact hk);rw[az _ _ ne]at e1;exact⟨e1,e2,e3.trans (z.old k H.lt Zc)⟩
 generalize ai κ b3 8=κ1 at *
 by_cases k1:ka=1
 .refine nV c Z (zU k1)<|ia 1 2 [] c Z Z mX λa3 w3 d=>c3g ((y.grown d.hJ).less) F h' (d.nm.oo 2 [0,3] Z Z) λw4 f K' g m=>q _ _ _ _ _ _ _ _ g (m.grow d.hJ)
 refine nR c Z (yy k1)<|ia 200 2 [] c Z Z mX λa3 w3 d=>?_
 by_cases k6:ka=6
 .refine nV d Z (zU k6)<|Zz ((y.grown d.hJ).less) E (d.nm.oo 2 [0,3] Z Z) λw4 κ' f g m=>q _ _ _ _ _ _ _ _ g (m.grow d.hJ)
 refine nR d Z (yy k6)<|ia 200 2 [] d Z Z mX λa4 w4 M4=>nR M4 Z Z<|ia 200 2 [] M4 Z Z mX λa5 w5 C=>?_
 cases ot with
 | true =>
  refine nV C Z Z<|ia 200 2 [] C Z Z mX λa6 w6 o=>Mx (i:=1) (y.grown o.hJ) E F Zb T (o.nm.oo 2 [0,3,9,69,70] Z Z) λl' L' d' b' w7 κ' f K' g m=>q _ _ _ _ _ _ _ _ g (m.grow o.hJ)
 | false =>
  refine nR C Z Z<|ia 200 2 [] C Z Z mX λa6 w6 o=>Mx (i:=0) (y.grown o.hJ) E F Zb T (o.nm.oo 2 [0,3,9,69,70] Z Z) λl' L' d' b' w7 κ' f K' g m=>q _ _ _ _ _ _ _ _ g (m.grow o.hJ)
end
def Kg:List bh:=match Tryz.f11.body with
 | some (.seq _ (.seq _ (.seq (.seq _ (.block b (.loop (.seq (.seq x y) z)))) e)))=>[.code y,.code z,.inLoop (.seq (.seq x y) z),.inBlock b,.code e]
 | _=>[]
def UP:List bh:=match Tryz.f11.body with
 | some (.seq _ (.seq _ (.seq (.seq _ (.block b (.loop (.seq x0 (.seq (.block b1 (.seq r5 (.seq r6 (.seq r7 (.block b2 (.loop (.seq (.seq x y) z))))))) r4))))) e)))=>[.code y,.code z,.inLoop (.seq (.seq x y) z),.inBlock b2,.inBlock b1,.code r4,.inLoop (.seq x0 (.seq (.block b1 (.seq r5 (.seq r6 (.seq r7 (.block b2 (.loop (.seq (.seq x y) z))))))) r4)),.inBlock b,.code e]
 | _=>[]
def d1v:List bh:=match Tryz.f11.body with
 | some (.seq _ (.seq _ (.seq (.seq _ (.block b (.loop (.seq x0 (.seq (.block b1 (.seq r5 (.seq r6 (.seq r7 (.block b2 (.loop (.seq x2 (.seq (.block b3 (.seq r10 (.block b4 (.loop (.seq (.seq x y) z))))) r9)))))))) r4))))) e)))=>[.code y,.code z,.inLoop (.seq (.seq x y) z),.inBlock b4,.inBlock b3,.code r9,.inLoop (.seq x2 (.seq (.block b3 (.seq r10 (.block b4 (.loop (.seq (.seq x y) z))))) r9)),.inBlock b2,.inBlock b1,.code r4,.inLoop (.seq x0 (.seq (.block b1 (.seq r5 (.seq r6 (.seq r7 (.block b2 (.loop (.seq x2 (.seq (.block b3 (.seq r10 (.block b4 (.loop (.seq (.seq x y) z))))) r9)))))))) r4)),.inBlock b,.code e]
 | _=>[]
abbrev uW(P:Wp):Mem:=[(0,0,.v (Po (J (O P.kb.bk 0 G')))),(0,1,.v (Po (J (O P.B.b 0 G')))),(0,2,.v (Sc (J (O P.wl 0 G')) 2 P.cl)),(0,3,.v (Sc (J (O P.wm 0 G')) 2 P.cm)),(0,4,.v (Po (J (O P.bb 0 G'))))]
theorem Pm.oG(c:Pm sft κ w P S K)(g:Fit sft w)(h:∀k,w.heap.size<=k->sft k=0):yX sft [] 1 [(P.bw,0)] (uW P) w:=by
 refine⟨λe d=>?_,λi f=>?_,λi j f m o=>?_,λi q u=>?_,g,h⟩
 .simp only[uW,ae,aj,or_false]at d;rcases d with rfl|rfl|rfl|rfl|rfl<;>refine⟨cJ,mX,?_⟩
  .exact c.w0
  .exact c.w1
  .exact c.w2
  .exact c.w3
  .exact c.w4
 .obtain rfl:i=0:=Zm f;exact c.rw.1
 all_goals grind
theorem Pm.oO{a:cZ}(d:Pm sft κ w P S K)(e:Fit sft w)(f:∀k,w.heap.size<=k->sft k=0)(g:pK c (qh [(P.bw,0)] u) a)(h:∀p∈u,p.2.ok 1):fx sft [] 1 w [(P.bw,0)] (uW P) c u a w:=by
 have E:=d.oG e f;exact⟨g,E.ce,h,E.bl,E.ij,λi j m=>.inl (E.own i j m),af _,λ_ _ _=>rfl,E.fit,E.new⟩
theorem F3.trans{I:Kb}{κ1 c:Nat->Nat}{w1 w2:Wd}(e:F3 I E x j F κ1 w1)(f:F3 I F κ1 w1 H c w2):F3 I E x j H c w2:=λk g d=>by
 let⟨a1,a2,h⟩:=e k g d;let⟨m,o,b3⟩:=f k a2 (by rw[a1];exact d)
 grind
theorem Ps{κ0:Nat->Nat}{w0:Wd}{i:Nat}{q:Int}{t1:Nat}(u:i<2)(ht:t1<=1000000000000)(y:∀κ S a w,Pw l L r Inb nG w κ P S K t1->F3 P.kb L κ0 w0 L κ w->fx (ep l) [] 1 w [(P.bw,0)] (uW P) 68 [(0,.c (.p 0 0)),(3,.c (.v (Bo true))),(4,.c (ci q)),(6,.c (ci (i+1:Nat))),(27,.c (.v (Bo (decide (((i+1:Nat):Int)<2)))))] a w->iv J' true true (ep l) Stop (G ((base 11).at a UP) (fr::cs)) w) :
  ∀(f:Nat) (j:Int) t κ S a w,-1<=j->j+f=7->t+f=t1->Pw l L r Inb nG w κ P S K t->F3 P.kb L κ0 w0 L κ w->fx (ep l) [] 1 w [(P.bw,0)] (uW P) 68 [(0,.c (.p 0 0)),(3,.c (.v (Bo true))),(4,.c (ci q)),(6,.c (ci i)),(7,.c (ci j)),(31,.c (.v (Bo (decide (j<=6)))))] a w->iv J' true true (ep l) Stop (G ((base 11).at a d1v) (fr::cs)) w:=by
 intro f
 induction f with
 | zero =>
  intro j t κ S a w z C E h g M;refine nR M Z (decide_eq_false Za)<|ia 200 1 [] M Z Z mX λa1 w1 c=>?_;have d:=c.nm.oo 1 [0,3,4,6,27] Z Z;rw[C7 (n:=i) Za]at d;obtain rfl:t=t1:=by omega
  exact y κ S a1 w1 (h.grown c.hJ) (g.hJ c.hJ) d
 | succ f F =>
  intro j t κ S a w z C E h g M;refine nV M Z (decide_eq_true Za)<|ia 200 1 [] M Z Z mX λa1 w1 c=>A4 c (Ko (h.grown c.hJ) Za u j) Z Z Z jx Z Z Z Z Z λx w2 H=>?_;obtain⟨rfl,T,W,e,X⟩:=H;have m:=c.got (D:=37) Z (.c (.v (Bo true))) mX (x:=Bo true) Z Z;have d:=e.pm.oO e.fit e.co.soft m.lv m.wf;refine ia 200 1 [] d Z Z mX λa3 w3 k=>?_;have o:=k.nm.oo 1 [0,3,4,6,7,31] Z Z;rw[W7 (x:=j+1) Za Za]at o;exact F (j+1) (t+1) T W a3 w3 Za Za Za (e.grown k.hJ) ((g.hJ c.hJ |>.trans X).hJ k.hJ) o
theorem Jk{κ0:Nat->Nat}{w0:Wd}{q:Nat}{a:cZ}(j:q<2)(ht:t+17<=1000000000000)(h:Pw l L r Inb nG w κ P S K t)(z:F3 P.kb L κ0 w0 L κ w)(M:fx (ep l) [] 1 w [(P.bw,0)] (uW P) 68 [(0,.c (.p 0 0)),(3,.c (.v (Bo true))),(4,.c (ci q)),(12,.c (.v (Bo (decide ((q:Int)<2)))))] a w)(C:∀κ S a w,Pw l L r Inb nG w κ P S K (t+17)->F3 P.kb L κ0 w0 L κ w->fx (ep l) [] 1 w [(P.bw,0)] (uW P) 68 [(0,.c (.p 0 0)),(3,.c (.v (Bo true))),(4,.c (ci (q+1:Nat))),(12,.c (.v (Bo (decide (((q+1:Nat):Int)<2)))))] a w->iv J' true true (ep l) Stop (G ((base 11).at a Kg) (fr::cs)) w):iv J' true true (ep l) Stop (G ((base 11).at a Kg) (fr::cs)) w:=by
 refine nV M Z (decide_eq_true Za)<|ia 200 1 [] M Z Z mX λa1 w1 c=>A4 c (IU (h.grown c.hJ) Za) Z Z Z jy Z Z Z Z Z λx w2 j=>?_;obtain⟨rfl,E,F,d,H⟩:=j;have k:=c.got (D:=16) Z (.c (.v (Bo true))) mX (x:=Bo true) Z Z;have T:=d.pm.oO d.fit d.co.soft k.lv k.wf;refine ia 200 1 [] T Z Z mX λa3 w3 m=>nV m Z Z<|ia 200 1 [] m Z Z mX λW X e=>Ps (κ0:=κ0) (w0:=w0) (i:=0) (q:=q) (t1:=t+9) Zb Za (λa' S5 a5 w5 h5 k5 o=>?_) 8 (-1) (t+1) E F W X Za Za Za (d.grown e.hJ) ((z.hJ c.hJ |>.trans H).hJ e.hJ) (e.nm.oo 1 [0,3,4,6,7,31] Z Z);refine nV o Z Z<|ia 200 1 [] o Z Z mX λa6 w6 f=>Ps (κ0:=κ0) (w0:=w0) (i:=1) (q:=q) (t1:=t+17) Zb Za (λc' S7 a7 w7 h7 k7 u=>?_) 8 (-1) (t+9) a' S5 a6 w6 Za Za Za (h5.grown f.hJ) (k5.hJ f.hJ) (f.nm.oo 1 [0,3,4,6,7,31] Z Z);refine nR u Z Z<|ia 200 1 [] u Z Z mX λa8 w8 g=>?_;have y:=g.nm.oo 1 [0,3,4,12] Z Z;rw[C7 (n:=q) Za]at y;exact C c' S7 a8 w8 (h7.grown g.hJ) (k7.hJ g.hJ) y
def Px:List bh:=match Tryz.f11.body with
 | some (.seq _ (.seq _ (.seq _ (.seq (.seq _ (.block b (.loop (.seq (.seq x y) z)))) e))))=>[.code y,.code z,.inLoop (.seq (.seq x y) z),.inBlock b,.code e]
 | _=>[]
section
variable{b:Nat->Nat->Option ng}
theorem KA{i:Nat}{a:cZ}(u:i<2)(g:Pg l L r Inb nG w κ P b S.V S.N S.Xs K)(y:Pm (ep l) κ w P S K)(M:fx (ep l) [] 1 w [(P.bw,0)] (uW P) 68 [(0,.c (.p 0 0)),(3,.c (.v (Bo true))),(9,.c (ci i)),(48,.c (.v (Bo (decide ((i:Int)<2)))))] a w)(z:∀L' d' C w',Pg l L' r d' nG w' κ P (nM b i λ_=>G') S.V S.N S.Xs K->Pm (ep l) κ w' P S K->(∀k,Mn P.kb L w k->κ k<300->Mn P.kb L' w' k/\w'.heap[k]?=w.heap[k]?)->fx (ep l) [] 1 w' [(P.bw,0)] (uW P) 68 [(0,.c (.p 0 0)),(3,.c (.v (Bo true))),(9,.c (ci (i+1:Nat))),(48,.c (.v (Bo (decide (((i+1:Nat):Int)<2)))))] C w'->iv J' true true (ep l) (X J' f' l d' nG 0) (G ((base 11).at C Px) (fr::cs)) w'):iv J' true true (ep l) (X J' f' l Inb nG 0) (G ((base 11).at a Px) (fr::cs)) w:=by
 refine nV M Z (decide_eq_true Za)<|ia 200 1 [[Po (J (O ((P.lb i).bl) 0 G'))]] M Z Z ⟨⟨mX,by omega⟩,⟨y.r4.1.lt,by simp,by simpa using(y.l i u).1⟩⟩ λa1 w1 h=>?_;have o:=g.hJ (κ':=κ) h.hJ (λk c=>(by cases c)) (λ_ _=>rfl) λk c=>(g.mw k c).grow h.hJ.size;have c':Pm (ep l) κ w1 P S K:=y.move λk c f=>⟨Z,h.old k c Zc,(g.mw k f.1).sf⟩
 refine wX (vs:=[Po (J (O ((P.lb i).bl) 0 G'))]) (Post:=λx w' e=>x=.tuple #[]/\∃L' d',e=(ep l,X J' f' l d' nG 0)/\Pg l L' r d' nG w' κ P (nM b i λ_=>G') S.V S.N S.Xs K/\∀k,Mn P.kb L w1 k->κ k<300->Mn P.kb L' w' k/\w'.heap[k]?=w1.heap[k]?) h (λe' g' c=>λd=>.stop (Kf (o.co.at d) ((o.lm i u).grown ⟨af _,λ_ _=>rfl,mX⟩) e' g' λL' d' w' c1 c2 c3 E=>?_)) Z Z Z mD Z Z Z Z λx w2 e hq=>?_
 .let⟨g,q⟩:=o.cancel u c1 c2 (λk c=>c3 k ⟨c.lt,c.nf,c.ns,c.nd,c.own⟩) E.1 E.2;exact tF (c _ w' (ep l,X J' f' l d' nG 0) ⟨Z,L',d',Z,g,q⟩)
 .obtain⟨rfl,L',d',rfl,j,q⟩:=hq;have F:Pm (ep l) κ w2 P S K:=c'.move λk c f=>⟨Z,(q k (o.mw k f.1).mn f.2).2,(j.mw k f.1).sf⟩
  have H:=h.got (D:=58) Z (.t []) (λx z=>(by cases z)) (x:=.tuple #[]) Z Z;have M2:=F.oO j.co.env.fit j.co.soft H.lv H.wf;refine ia 200 1 [] M2 Z Z mX λa3 w3 m=>?_;have T:=m.nm.oo 1 [0,3,9,48] Z Z;rw[C7 (n:=i) Za]at T;refine z L' d' a3 w3 (j.hJ (κ':=κ) m.hJ (λk c=>(by cases c)) (λ_ _=>rfl) λk c=>(j.mw k c).grow m.hJ.size) (F.move λk c f=>⟨Z,m.old k c Zc,(j.mw k f.1).sf⟩) (λk f h3=>?_) T;let⟨W,e2⟩:=q k (f.grow h.hJ.size) h3;exact⟨W.grow m.hJ.size,(m.old k W.lt Zc).trans (e2.trans (h.old k f.lt Zc))⟩
theorem tV(h:Pw l L r Inb nG w κ P S K t)(ht:t+34<=1000000000000)(g':∀L' d' w' κ',Co P.kb l K L' r d' nG w'->(∀g,L' g=G')->F3 P.kb L κ w L' κ' w'->iv J' true true (ep l) (X J' f' l d' nG 0) (G (fr.finish (Bo true)) cs) w'):iv J' true true (ep l) (X J' f' l Inb nG 0) (G (ay J' 11 #[Po (J (O P.bw 0 G'))] .normal) (fr::cs)) w:=by
 refine AX (ρ:=[(P.bw,0)]) (W:=[]) (ro:=1) (m:=uW P) (sz:=68) [.c (.p 0 0)] (h.pm.oG h.fit h.co.soft) (λs hs=>?_) jz Z Z Z λa M=>?_
 .cases Zi hs;exact cJ
 refine ia 200 1 [] M Z Z mX λa1 w1 q=>Jk (κ0:=κ) (w0:=w) (q:=0) Zb Za (h.grown q.hJ) ((F3.refl _ _ _ _).hJ q.hJ) (q.nm.oo 1 [0,3,4,12] Z Z) λp' S2 a2 w2 h2 k2 M2=>Jk (κ0:=κ) (w0:=w) (q:=1) Zb Za h2 k2 M2 λm u a3 w3 C k3 E=>nR E Z Z<|ia 200 1 [] E Z Z mX λa4 w4 y=>?_;have F:=C.grown y.hJ;refine KA (i:=0) (S:=u) Zb F.pg F.pm (y.nm.oo 1 [0,3,9,48] Z Z) λL5 s' a5 w5 g5 h' i' M5=>KA (i:=1) (S:=u) Zb g5 h' M5 λH j' a6 w6 f k' m' T=>nR T Z Z<|ia 200 1 [] T Z Z mX λa7 w7 j=>?_;have g7:=f.hJ (κ':=m) j.hJ (λk d=>(by cases d)) (λ_ _=>rfl) λk d=>(f.mw k d).grow j.hJ.size;have n':Pm (ep l) m w7 P u K:=k'.move λk d z=>⟨Z,j.old k d Zc,(f.mw k z.1).sf⟩
 refine A4 j (PS n'.bk j.fit g7.co.soft λc hc=>by have:=C.tB c hc;omega) Z Z Z gZ Z Z Z Z Z λx w8 hq=>?_;obtain⟨rfl,F8⟩:=hq;refine E3 (j.still F8) 1 (.c (.v (Bo true))) Z Z Z Z Z λa9 M9=>ia 200 1 [] M9 Z Z mX λB' W a'=>A9 a' jz Z Z Z ?_;have o:nC (ep l) [] w6 W:=a'.hJ;have o':=f.hJ (κ':=m) o (λk d=>(by cases d)) (λ_ _=>rfl) λk d=>(f.mw k d).grow o.size;refine g' H j' W m o'.co (λg=>?_) λk z d=>?_
 .cases e:H g with
  | none=>rfl
  | some v =>
   let⟨i,p,hi,hp,hU⟩:=f.all g v e;obtain rfl|rfl:i=0\/i=1:=by omega
   .simp[nM]at hU
   .simp[nM]at hU
 .let⟨e1,m1,u1⟩:=(k3.hJ y.hJ) k z d;have lt:m k<300:=by rw[e1];omega
  let⟨m2,u2⟩:=i' k m1 lt;let⟨m3,u3⟩:=m' k m2 lt;exact⟨e1,m3.grow o.size,(o.old k m3.lt Zc).trans (u3.trans (u2.trans u1))⟩
end
end
def yI(k s c a d e f g h:Int)(b:Bool):List dM:=[Y U k,Y U s,Y U c,Y U a,Y U d,Y U e,Y U f,Y U g,Y U h,Bo b]
section
open Go.Conc
def xd(w:Wd)(a:Option cx)(n:Nat):Prop:=∀i,i<n->∃g o k s c e f h d j l b,a=J (O g o Q)/\g<w.heap.size/\w.rangeAt g (o+i*10) (yI k s c e f h d j l b)/\(-9223372036854775808<=c/\c<9223372036854775808)/\-9223372036854775808<=d/\d<9223372036854775808
def yC(b:Kb)(L:Nat->Option Lv)(c:Nat->Nat)(a w:Wd):Prop:=∀k,k<a.heap.size->Mn b L w k/\c k=0/\w.heap[k]?=a.heap[k]?
theorem yC.size{a:Kb}(h:yC a E w j k):j.heap.size<=k.heap.size:=by
 rcases mR j.heap.size with e|e
 .omega
 .have:=(h (j.heap.size - 1) Za).1.lt;omega
end
section
open Go.Conc
theorem BR(i:Nat):ep [] i=0:=U7 λo a=>by cases a
theorem S8(w:Wd):Fit (ep []) w:=⟨λi a=>absurd (BR i) a,mX⟩
theorem c9Z(w:Wd):KO [] w:=λo a=>by cases a
theorem VV{kb:Kb}(a:js j kb.bk kb.bf kb.bs kb.bd B)(b:qn j)(d:rC B)(e:0≠kb.bf/\0≠kb.bs/\0≠kb.bd)(f:kb.fo=λ_=>Q)(i:kb.fl=[]/\kb.fz=0)(r:Nat):Co kb [] B (λ_=>Q) r (λ_=>Q) 1 j :=
 ⟨⟨a,b,d,S8 j,c9Z j,λo k=>by cases k⟩,e,λg v h=>(by cases h),λg v h=>(by cases h),λg v h=>(by cases h),λg v h=>(by cases h),λg v h=>(by cases h),λg _ _=>(by rw[f]),λs c h=>(by cases h),λg v h=>(by cases h),λg v h=>(by cases h),λg v l m h=>(by cases h),λg v l m h=>(by cases h),λg s h=>(by grind),by simp[i]⟩
theorem c1n(T:qn j)(a b i:Nat)(w:2<=a)(H:a<=32)(y:1<=b)(z:b<=6)(I:i<=4)(s:Fm')(t:List Fm')(d:Nat) :
  l6 V true (DL true (ep [])) (λg o=>∃c:Kb,g=G (s.finish (.tuple #[Po (J (O c.bk 0 Q)),Y U 0])) t/\(c.fo=λ_=>Q)/\Grown j o/\j.heap.size<=c.bk/\j.heap.size<=c.bf/\j.heap.size<=c.bs/\j.heap.size<=c.bd/\∀r,Co c [] (K6 a b i) (λ_=>Q) r (λ_=>Q) 1 o)
   (G (ay V 12 #[.agg #[Y U a,Y U b,Y U i]] .normal) (s::t)) (j.at d):=by
 refine(xU xn (sft:=ep []) (w0:=j.at d) Zd (S8 _) true (Q:=λx p=>∃v f l m n,Lk (ep []) v (j.at d)/\x=.tuple #[Po (J (O f 0 Q)),Y U 0]/\js p f l m n (K6 a b i)/\bE v.heap.size v p/\j.heap.size<=f/\j.heap.size<=l/\j.heap.size<=m/\j.heap.size<=n) (λv q=>(RR a b i w H y z I v).mono λe p K=>by
   obtain⟨f,l,m,n,rfl,A,u,B,C,D,E⟩:=K;have sv:v.heap.size=j.heap.size:=q.size
   grind) s t).keep.mono (λ_ _ _ h=>h) ?_
 rintro g o ⟨⟨x,p,rfl,hl',v,f,l,m,n,q,rfl,A,u,B,C,D,E⟩,hkp⟩;have N:v.heap.size=j.heap.size:=q.size;have P:p.heap.size=o.heap.size:=hl'.size;have F:Grown j o:=⟨by have:=u.size;omega,λk R=>C5 (w:=j.at d) hkp q hl' (u.block k Za),mX⟩;have L:0<j.heap.size:=T.lt;exact⟨⟨f,l,m,n,λ_=>Q,[],0⟩,Z,Z,F,B,C,D,E,λr=>VV (kb:=⟨f,l,m,n,λ_=>Q,[],0⟩) (HK hl' (BR _) (BR _) (BR _) A) (T.same (F.old 0 L)) (NJ a b i w y z) ⟨by simp only;omega,by simp only;omega,by simp only;omega⟩ Z ⟨Z,Z⟩ r⟩
end
section
open Go.Conc
abbrev su:Nat->Option Lv:=λ_=>Q
abbrev uo:Nat->Option eZ:=λ_=>Q
variable{w w':Wd}{kb:Kb}{K:aa}{sft:Nat->Nat}{B:RB}{r:Rk}
theorem D7(k:Nat):ep [] k=0:=BR k
theorem Zq(T:qn w)(a b c:Nat)(e:2<=a)(f:a<=32)(i:1<=b)(j:b<=6)(k:c<=4):oL true (ep []) 12 #[.agg #[vi a,vi b,vi c]] w λx w'=>∃kb:Kb,x=.tuple #[Po (J (O kb.bk 0 Q)),vi 0]/\(kb.fo=uo)/\Grown w w'/\w.heap.size<=kb.bk/\w.heap.size<=kb.bf/\w.heap.size<=kb.bs/\w.heap.size<=kb.bd/\∀r,Co kb [] (K6 a b c) su r uo 1 w' :=
 Bx λl m d=>(c1n T a b c e f i j k l m d).mono (λ_ _ _ h=>h) λg w' n=>by
  grind
theorem Pa(l:Fit sft w){f:bC}(m:Sg f=true)(h:∀v,aF V f s v λe a=>e=.returned q/\bE v.heap.size v a):oL true sft f s w λy w'=>y=q/\nC sft [] w w' :=
 xA l m (R:=λy v a=>y=q/\bE v.heap.size v a) (λd v b=>(h v).mono λe a c=>⟨q,c.1,Z,c.2⟩) λd y v a w' b g i j=>by
  have n:v.heap.size=w.heap.size:=b.size;exact⟨j.1,i.size,λk h _=>C5 (w:=w.at d) i b g (j.2.block k Za),g.fit⟩
theorem YQ(b:∀k,sft k=0)(M:ml w B r)(hF:0<r.nF)(d:0<r.nS):pt sft w B r:=by
 have a:∀ {k o:Nat} {v:Vu},w.cell? (O k o Q)=J v->∃c t f,w.heap[k]?=J (.cells c t f):=λ{k o v} h=>by
  unfold aC at h
  grind
 refine⟨M,λk e=>⟨?_,b k⟩⟩;rcases e with rfl|rfl|rfl|⟨h0,q,hq,rfl⟩
 .exact a M.k0
 .exact a (M.wd 0 0 hF Zb)
 .exact a (M.pr 0 0 d Zb)
 .exact a (M.rg 0 q h0 hq)
theorem Uw(z:Fit (ep []) w)(g i j:Nat)(n:2<=g)(A:g<=32)(C:1<=i)(D:i<=6)(E:j<=4):oL true (ep []) 13 #[.agg #[vi g,vi i,vi j]] w λx w'=>∃B r,x=.tuple #[Po (J (O B.b 0 Q)),vi 0]/\pt (ep []) w' B r/\Rel (K6 g i j) r/\nC (ep []) [] w w'/\∀k,B.is r k->w.heap.size<=k:=by
 refine xA z Zd (R:=λy v l=>∃B r,y=.tuple #[Po (J (O B.b 0 Q)),vi 0]/\ml l B r/\Rel (K6 g i j) r/\bE v.heap.size v l/\v.heap.size<=B.b/\v.heap.size<=B.bw/\v.heap.size<=B.bp/\∀q,v.heap.size<=B.bq q) (λd v o=>(c5R g i j n A C D E v).mono λe l N=>?_) λd y v l w' o m s F=>?_
 .grind
 .obtain⟨B,r,rfl,M,a,b,P,R,S,T⟩:=F;have W:v.heap.size=w.heap.size:=o.size;have G:l.heap.size=w'.heap.size:=m.size;have H:0<r.nF:=by have:=a.f;have e:(K6 g i j).nF=g:=Z;omega
  have I:0<r.nS:=by have:=a.s;have e:(K6 g i j).nS=i:=Z;omega
  have u:=YQ (sft:=ep []) D7 M H I;have L:∀k,B.is r k->w'.heap[k]?=l.heap[k]?:=λk p=>by
   let⟨⟨c,t,f,n⟩,_⟩:=u.row k p;exact(vI m (D7 k) (.inr ⟨c,t,f,n⟩)).symm
  refine⟨B,r,Z,u.keep L,a,⟨s.size,λk h _=>C5 (w:=w.at d) s o m (b.block k Za),m.fit⟩,λk p=>?_⟩;rcases p with rfl|rfl|rfl|⟨_,q,_,rfl⟩
  all_goals grind
theorem c3z{l:List ng}(e:Co kb l K E a I b w):oL true (ep l) 14 #[Po (J (O kb.bk 0 Q))] w λx w'=>Grown w w'/\∃c:Lb,x=Po (J (O c.bl 0 Q))/\(w.heap.size<=c.bu/\w.heap.size<=c.bn)/\oD kb l E w' c K.nS (c.bl+1) (λ_=>Q) (λ_=>Sc Q 0 0) (λ_=>0) (λ_=>[]) :=
 Bx λf i d=>(SH e f i d).mono (λ_ _ _ h=>h) λg w' j=>by
  grind
def sT(f:Nat->Nat)(i:Nat):List dM:=(aO i).map λj=>Po (J (O (f j) 0 Q))
theorem Kk(f:Nat->Nat)(i:Nat):sT f (i+1)=sT f i++[Po (J (O (f i) 0 Q))]:=by simp[sT,List.range_succ]
theorem JV{g:Nat->Nat}(h:∀j,j<a->x j=g j):sT x a=sT g a:=iI λj b=>by grind
structure pX (wz:Wd) (kb:Kb) (B:RB) (rr:Rk) (K:aa) (bw bb:Nat) (lb:Nat->Lb) (rb:Nat->Rl) (i j:Nat) (V2 V3:Vu) (κ:Nat->Nat) (w:Wd):Prop where
 co:∀r,Co kb [] K su r uo 1 w
 kz:kb.bk<wz.heap.size/\kb.bf<wz.heap.size/\kb.bs<wz.heap.size/\kb.bd<wz.heap.size/\0<wz.heap.size
 size:wz.heap.size<=w.heap.size
 old:∀k,k<wz.heap.size->w.heap[k]?=wz.heap[k]?
 off:∀k,w.heap.size<=k->κ k=0
 low:∀k,κ k≠0->wz.heap.size<=k
 R:pt (ep []) w B rr
 Rc:∀j,B.is rr j->κ j=1
 rX:wo K rr
 c0:w.cell? (O bw 0 Q)=J (Po (J (O kb.bk 0 Q)))
 c1:w.cell? (O bw 1 Q)=J (Po (J (O B.b 0 Q)))
 c2:w.cell? (O bw 2 Q)=J V2
 c3:w.cell? (O bw 3 Q)=J V3
 c4:w.cell? (O bw 4 Q)=J (Po (J (O bb 0 Q)))
 rw:F7 (ep []) w bw/\κ bw=3
 uS:(F7 (ep []) w bb/\κ bb=6)/\∀c,c<4->w.cell? (O bb c Q)=J (Sc Q 0 0)
 o2:w.ownsRow 0 56 1 V2 i (sT (λq=>(lb q).bl) i)
 g2:∀g,V2.ownBlock=J g->κ g=4
 o3:w.ownsRow 0 58 1 V3 j (sT (λq=>(rb q).bl) j)
 g3:∀g,V3.ownBlock=J g->κ g=5
 lm:∀q,q<i->oD kb [] su w (lb q) K.nS ((lb q).bl+1) (λ_=>Q) (λ_=>Sc Q 0 0) (λ_=>0) (λ_=>[])
 lc:∀q,q<i->κ (lb q).bl=300+100*q/\κ (lb q).bu=301+100*q/\κ (lb q).bn=302+100*q
 rl:∀q,q<j->oh (ep []) κ q w (rb q) B.b K.nS (λ_=>Q) (λ_=>s0) (λ_=>0) (λ_=>[])
variable{wz:Wd}{rr:Rk}{C H:Nat}{lb c':Nat->Lb}{rb e':Nat->Rl}{i j i' j':Nat}{I V3:Vu}{κ κ':Nat->Nat}
theorem pX.lt(h:pX wz kb B rr K C H lb rb i j I V3 κ w)(b:κ a≠0):a<w.heap.size:=Nat.lt_of_not_le λc=>b (h.off a c)
theorem pX.mw(h:pX wz kb B rr K C H lb rb i j I V3 κ w)(e:wz.heap.size<=a)(b:a<w.heap.size):Mw kb [] su w a:=by
 let⟨f,k,l,m,n⟩:=h.kz;exact⟨⟨b,by omega,by omega,by omega,λg v c=>(by cases c)⟩,by omega,by omega,λo d=>(by cases d)⟩
theorem pX.to{m:Vu}(h:pX wz kb B rr K C H lb rb i j I V3 κ w)(A:∀k,k<wz.heap.size->w'.heap[k]?=w.heap[k]?)(F:∀k,w'.heap.size<=k->κ' k=0)(L:∀k,κ' k≠0->wz.heap.size<=k)(f:w.heap.size<=w'.heap.size)(d:∀k,κ k≠0->κ' k=κ k)(x:∀k,κ k≠0->κ k≠3->κ k≠4->κ k≠5->w'.heap[k]?=w.heap[k]?)(N:F7 (ep []) w' C)(y:∀c,c=0\/c=1\/c=4->w'.cell? (O C c Q)=w.cell? (O C c Q))(P:w'.cell? (O C 2 Q)=J q)(R:w'.cell? (O C 3 Q)=J m)(S:w'.ownsRow 0 56 1 q i' (sT (λa=>(c' a).bl) i'))(T:∀g,q.ownBlock=J g->κ' g=4)(W:w'.ownsRow 0 58 1 m j' (sT (λa=>(e' a).bl) j'))(G:∀g,m.ownBlock=J g->κ' g=5)(n:∀a,a<i->c' a=lb a)(b':∀a,a<i'->i<=a->oD kb [] su w' (c' a) K.nS ((c' a).bl+1) (λ_=>Q) (λ_=>Sc Q 0 0) (λ_=>0) λ_=>[])(d':∀a,a<i'->i<=a->κ' (c' a).bl=300+100*a/\κ' (c' a).bu=301+100*a/\κ' (c' a).bn=302+100*a)(M:∀a,a<j->e' a=rb a)(f':∀a,a<j'->j<=a->oh (ep []) κ' a w' (e' a) B.b K.nS (λ_=>Q) (λ_=>s0) (λ_=>0) λ_=>[]):pX wz kb B rr K C H c' e' i' j' q m κ' w':=by
 have D:=x H (by rw[h.uS.1.2];decide) (by rw[h.uS.1.2];decide) (by rw[h.uS.1.2];decide) (by rw[h.uS.1.2];decide);have a:∀ {k c:Nat},κ k=c->c≠0->κ' k=c:=λ{k c} e E=>(d k (by rw[e];exact E)).trans e;have s:∀ {k c:Nat},κ k=c->100<=c->w'.heap[k]?=w.heap[k]?:=λ{k c} e E=>x k Za Za Za Za;refine⟨λr=>(h.co r).wrote f mX λk d X=>A k (Nat.lt_of_not_le λn=>X (h.mw n d)),h.kz,Zh h.size f,λk d=>(A k d).trans (h.old k d),F,L,h.R.keep λk t=>x k (by rw[h.Rc k t];decide) (by rw[h.Rc k t];decide) (by rw[h.Rc k t];decide) (by rw[h.Rc k t];decide),λj hj=>a (h.Rc j hj) Zb,h.rX,(y 0 Zc).trans h.c0,(y 1 Zc).trans h.c1,P,R,(y 4 Zc).trans h.c4,⟨N,a h.rw.2 Zb⟩,⟨⟨h.uS.1.1.of D,a h.uS.1.2 Zb⟩,λc u=>(Zf (w:=w) D).trans (h.uS.2 c u)⟩,S,T,W,G,λp v=>?_,λp v=>?_,λp v=>?_⟩
 .rcases bQ p i with b|b
  .rw[n p b];let⟨l1,l2,l3⟩:=h.lc p b;have l:=h.lm p b;exact⟨⟨l.m.is.same (s l1 Za) (s l2 Za) (s l3 Za) λp v g z=>(by cases z),l.m.qt.grow f,l.m.qo.grow f,l.m.qU.grow f,λp v g z=>(by cases z),l.m.b0⟩,λa hq o ho=>(by cases ho)⟩
  grind
 .rcases bQ p i with b|b
  .rw[n p b];exact⟨a (h.lc p b).1 Za,a (h.lc p b).2.1 Za,a (h.lc p b).2.2 Za⟩
  grind
 .rcases bQ p j with b|b
  .rw[M p b];exact(h.rl p b).same λk _ u=>⟨a Z (Pq u),s (c:=κ k) Z (by unfold oW at u;omega)⟩
  grind
theorem pX.grown(h:pX wz kb B rr K C H lb rb i j I V3 κ w)(l:w.heap.size<=w'.heap.size)(g:∀k,k<w.heap.size->w'.heap[k]?=w.heap[k]?)(m:∀k,w'.heap.size<=k->κ' k=0)(n:∀k,κ' k≠0->wz.heap.size<=k)(b:∀k,κ k≠0->κ' k=κ k):pX wz kb B rr K C H lb rb i j I V3 κ' w':=by
 have e:=λc=>Zf (w:=w) (w':=w') (a:=(O C c Q)) (g _ h.rw.1.lt);exact h.to (λk b=>g k (Zg b h.size)) m n l b (λk b _ _ _=>g k (h.lt b)) (h.rw.1.of (g _ h.rw.1.lt)) (λc _=>e c) ((e 2).trans h.c2) ((e 3).trans h.c3) (j5 h.o2 λx a=>g x (j8 h.o2 a).2) (λx a=>(b x (by rw[h.g2 x a];decide)).trans (h.g2 x a)) (j5 h.o3 λx a=>g x (j8 h.o3 a).2) (λx a=>(b x (by rw[h.g3 x a];decide)).trans (h.g3 x a)) (λ_ _=>rfl) (λq d f=>absurd d Za) (λq d f=>absurd d Za) (λ_ _=>rfl) λq d f=>absurd d Za
theorem pX.still(h:pX wz kb B rr K C H lb rb i j I V3 κ w){sft:Nat->Nat}(F:nC sft [] w w'):pX wz kb B rr K C H lb rb i j I V3 κ w' :=
 h.grown F.size (λk a=>F.old k a Zc) (λk a=>h.off k (Zh F.size a)) h.low λ_ _=>rfl
def Oy:List bh:=match Tryz.f8.body with
 | some (.seq _ (.seq _ (.seq _ (.seq _ (.seq _ (.seq _ (.seq (.seq _ (.block b (.loop (.seq (.seq x y) z)))) e)))))))=>[.code y,.code z,.inLoop (.seq (.seq x y) z),.inBlock b,.code e]
 | _=>[]
def Nl:List bh:=match Tryz.f8.body with
 | some (.seq _ (.seq _ (.seq _ (.seq _ (.seq _ (.seq _ (.seq (.seq _ (.block b (.loop (.seq xy (.seq (.block b1 (.seq r1 (.seq r2 (.seq r3 r4)))) r5))))) e)))))))=>[.code r4,.inBlock b1,.code r5,.inLoop (.seq xy (.seq (.block b1 (.seq r1 (.seq r2 (.seq r3 r4)))) r5)),.inBlock b,.code e]
 | _=>[]
theorem Xn:oY 38 56 1 8:=⟨by kernel_rfl,by kernel_rfl⟩
theorem JW:oY 39 58 1 8:=⟨by kernel_rfl,by kernel_rfl⟩
abbrev xm(kb:Kb)(B:RB)(I V3:Vu)(H:Nat):Mem:=[(0,0,.v (Po (J (O kb.bk 0 Q)))),(0,1,.v (Po (J (O B.b 0 Q)))),(0,2,.v I),(0,3,.v V3),(0,4,.v (Po (J (O H 0 Q))))]
abbrev zE(kb:Kb)(B:RB)(i:Int):l9:=[(1,.c (.v (Bo true))),(6,.c (.v (Po (J (O kb.bk 0 Q))))),(8,.c (.v (Po (J (O B.b 0 Q))))),(10,.c (.p 0 0)),(11,.c (ci i))]
theorem oD.tY{kb:Kb}{w w':Wd}{c:Lb}(d:oD kb [] su w c a b (λ_=>Q) (λ_=>Sc Q 0 0) (λ_=>0) λ_=>[])(e:w.heap.size<=w'.heap.size)(h:w'.heap[c.bl]?=w.heap[c.bl]?)(k:w'.heap[c.bu]?=w.heap[c.bu]?)(l:w'.heap[c.bn]?=w.heap[c.bn]?):oD kb [] su w' c a b (λ_=>Q) (λ_=>Sc Q 0 0) (λ_=>0) (λ_=>[]) :=
 ⟨⟨d.m.is.same h k l λp m g f=>(by cases f),d.m.qt.grow e,d.m.qo.grow e,d.m.qU.grow e,λp m g f=>(by cases f),d.m.b0⟩,λq s o n=>(by cases n)⟩
variable{Stop:Gr->Wd->Prop}{fr:Fm'}{cs:List Fm'}
theorem pX.prog{m:Wd}{f:Lb}(h:pX wz kb B rr K C H lb rb i j I V3 κ w)(F:nC (ep []) [] w k)(s:oD kb [] su k f K.nS (f.bl+1) (λ_=>Q) (λ_=>Sc Q 0 0) (λ_=>0) λ_=>[])(z1:w.heap.size<=f.bu)(z2:w.heap.size<=f.bn)(L:nC (ep []) I.ownBlock.toList k l)(N:l.ownsRow 0 56 1 (Sc (J (O a 0 Q)) (i+1) b) (i+1) (sT (λq=>(lb q).bl) i++[Po (J (O f.bl 0 Q))]))(S:I.ownBlock=J a\/k.heap.size<=a)(P:nC (ep []) [C] l m)(T:F7 (ep []) m C)(W:m.cell? (O C 0 Q)=J (Po (J (O kb.bk 0 Q))))(G:m.cell? (O C 1 Q)=J (Po (J (O B.b 0 Q))))(M:m.cell? (O C 2 Q)=J (Sc (J (O a 0 Q)) (i+1) b))(X:m.cell? (O C 3 Q)=J V3)(c4:m.cell? (O C 4 Q)=J (Po (J (O H 0 Q)))):∃κ',pX wz kb B rr K C H (nM lb i f) rb (i+1) j (Sc (J (O a 0 Q)) (i+1) b) V3 κ' m:=by
 let⟨n1,n2,n3,l1,l2,l3⟩:=s.m.is.ne;have s5:=F.size;have s6:=L.size;have s8:=P.size;have y:∀d,w.heap.size<=d->κ d=0:=h.off;have d':=h.size;have gl:a<l.heap.size:=(j8 N (g:=a) Z).2;have g4:I.ownBlock=J a->κ a=4:=h.g2 a;have z:f.bl<k.heap.size/\f.bu<k.heap.size/\f.bn<k.heap.size:=⟨s.m.qt.mn.lt,s.m.qo.mn.lt,s.m.qU.mn.lt⟩;have gw:κ a=4\/k.heap.size<=a:=S.imp_left g4;have f':κ f.bl=0:=y _ Za;have g':κ f.bu=0:=y _ Za;have h':κ f.bn=0:=y _ Za;have k':a≠f.bl/\a≠f.bu/\a≠f.bn/\κ a≠3:=by
  grind
 have e5:∀d,d<w.heap.size->k.heap[d]?=w.heap[d]?:=λd g=>F.old d g Zc;have e6:∀d,d<k.heap.size->κ d≠4->l.heap[d]?=k.heap[d]?:=λd g o=>L.old d g λt=>by
  cases e:I.ownBlock with
  | none=>grind
  | some x=>rw[e]at t;cases Zi t;exact o (h.g2 _ e)
 have e8:∀d,d<l.heap.size->κ d≠3->m.heap[d]?=l.heap[d]?:=λd g p=>P.old d g λt=>by
  cases Zi t;exact p h.rw.2
 have u:∀d,d<k.heap.size->κ d≠3->κ d≠4->m.heap[d]?=k.heap[d]?:=λd g p o=>(e8 d Za p).trans (e6 d g o);have A:∀d,d<w.heap.size->κ d≠3->κ d≠4->m.heap[d]?=w.heap[d]?:=λd g p o=>(u d Za p o).trans (e5 d g);generalize l':(λd=>if d=a then 4 else if d=f.bl then 300+100*i else if d=f.bu then 301+100*i else if d=f.bn then 302+100*i else κ d)=κ';have b':κ' a=4:=by grind
 have m':κ' f.bl=300+100*i:=by grind
 have n':κ' f.bu=301+100*i:=by grind
 have o':κ' f.bn=302+100*i:=by grind
 have p':∀d,d≠a->d≠f.bl->d≠f.bu->d≠f.bn->κ' d=κ d:=λd v D p o=>by grind
 have g:∀d,κ d≠0->κ' d=κ d:=λd E=>by
  grind
 have R:∀d,d<wz.heap.size->κ d=0:=λd g=>by
  cases e:κ d with
  | zero=>rfl
  | succ x=>have:=h.low d (by grind);omega
 refine⟨κ',h.to (λd g=>A d Za (by rw[R d g];decide) (by rw[R d g];decide)) (λd q'=>?_) (λd E=>?_) Za g (λd E p o h5=>A d (h.lt E) p o) T (λc hc=>?_) M X ?_ (λx n=>?_) (j5 h.o3 λx n=>A x (j8 h.o3 n).2 (by rw[h.g3 x n];decide) (by rw[h.g3 x n];decide)) (λx n=>(g x (by rw[h.g3 x n];decide)).trans (h.g3 x n)) (λq hq=>wK Za) (λq v D=>?_) (λq v D=>?_) (λ_ _=>rfl) λq v D=>absurd v Za⟩
 .grind
 .grind
 .rcases hc with rfl|rfl|rfl
  .exact W.trans h.c0.symm
  .exact G.trans h.c1.symm
  .exact c4.trans h.c4.symm
 .rw[Kk,JV (g:=λq=>(lb q).bl) (λq hq=>by show((nM lb i f) q).bl=_;rw[wK Za]),vr];exact j5 N λx n=>by
   obtain rfl:a=x:=Ze n
   grind
 .obtain rfl:a=x:=Ze n;exact b'
 .obtain rfl:q=i:=by omega
  rw[vr];exact s.tY Za (u _ z.1 Za Za) (u _ z.2.1 Za Za) (u _ z.2.2 Za Za)
 .obtain rfl:q=i:=by omega
  rw[vr]
  grind
theorem Od(hi:i<2)(h:pX wz kb B rr K C H lb rb i i I V3 κ w)(M:fx (ep []) [] 1 w [(C,0)] (xm kb B I V3 H) 75 (zE kb B i++[(45,.c (.v (Bo true)))]) m w)(L:∀b κ' z A w',pX wz kb B rr K C H (nM lb i b) rb (i+1) i z V3 κ' w'->fx (ep []) [] 1 w' [(C,0)] (xm kb B z V3 H) 75 (zE kb B i) A w'->iv V true true (ep []) Stop (G ((base 8).at A Nl) (fr::cs)) w'):iv V true true (ep []) Stop (G ((base 8).at m Oy) (fr::cs)) w:=by
 obtain rfl|rfl:i=0\/i=1:=by omega
 all_goals
  refine nV M Z Z<|ia 200 1 [] M Z Z mX λa1 N t=>?_;have n:=h.still t.hJ;refine A4 t (c3z (n.co 0)) Z Z Z Tryz.func14 Z Z Z Z Z λx w2 d=>?_;obtain⟨p,b,rfl,⟨P,R⟩,S⟩:=d;refine E3 (t.still (p.hJ (n.co 0))) 1 (.c (.v (Po (J (O b.bl 0 Q))))) Z Z Z Z Z λa3 T=>ia 200 1 [] T.nm Z Z mX λD W c=>vD (op:=.binOp .eql 56 (.tmp 50) (.const (Po Q)) 56) (.c (.v (Bo false))) c Z Z Z Zd Z Z Z mX (λo u X hu=>?_) λD c=>?_
  .have b':=(c.rd (x:=.tmp 50) (s:=.c (.v (Po (J (O b.bl 0 Q))))) Z).1;unfold Ex;simp only[X,b'];rfl
  refine ia 200 1 [] c Z Z mX λD W c=>nR c Z Z<|ia 200 1 [] c Z Z mX λa5 w5 f=>?_;have E:nC (ep []) [] N w5:=⟨Zh p.size f.hJ.size,λk s _=>(f.old k (Zg s p.size) Zc).trans (p.old k s),f.fit⟩;have v:=n.still E;have f':=S.grown ⟨f.hJ.size,λk s=>f.old k s Zc,mX⟩;refine Af Xn (f.nm.oZ (W':=I.ownBlock.toList) Zc) ⟨v.o2,λ_ _=>D7 _,λg y=>.inl (by rw[y];simp),λg y q d=>?_⟩ (aW _) Za Zb Z Z Z Z Z Z Z Z Z Z Z Z Z λa6 F g g' h' L6 l hp O6 og=>?_
  .obtain rfl:q=0:=Zm d;intro e;have e:C=g:=e;have:=v.g2 g y;rw[←e,v.rw.2]at this;cases this
  cases Ze hp;have M7:fx (ep []) [C] 0 F [(C,0)] (xm kb B I V3 H) 75 _ a6 F:=⟨l.lv,l.ce,l.wf,l.bl,l.ij,λq _ d=>.inl (by obtain rfl:q=0:=Zm d;exact cz.2 Z),af _,λ_ _ _=>rfl,l.fit,λk _=>D7 k⟩;refine ia 200 1 [] M7 Z Z mX λa8 w8 a=>?_;let⟨κ',h8⟩:=n.prog E f' P R L6 O6.row (og.imp_right (·.1)) a.hJ (a.bl 0 Zc) (a.ld 0 0 Z) (a.ld 0 1 Z) (a.ld 0 2 Z) (a.ld 0 3 Z) (a.ld 0 4 Z);have M9:=(a.next a.fit (λk _=>D7 k) (λq d=>⟨D7 _,Z⟩) a.lv a.wf).nY 1 [1,6,8,10,11] [(0,0),(0,1),(0,2),(0,3),(0,4)] Z Z Z;exact L b κ' _ a8 w8 h8 M9
structure Aj (κ:Nat->Nat) (w:Wd) (j:Nat) (B:RB) (n:Nat) (b:Rl) (κ1:Nat->Nat) (u:Wd):Prop where
 F:nC (ep []) [] w u
 kk:∀k,k<w.heap.size->κ1 k=κ k
 nk:∀k,w.heap.size<=k->κ1 k=0\/k<u.heap.size/\oW j (κ1 k)
 rl:oh (ep []) κ1 j u b B.b n (λ_=>Q) (λ_=>s0) (λ_=>0) (λ_=>[])
structure Ho (V3:Vu) (rb:Nat->Rl) (j:Nat) (b:Rl) (u w8:Wd) (g cap:Nat):Prop where
 row:w8.ownsRow 0 58 1 (Sc (J (O g 0 Q)) (j+1) cap) (j+1) (sT (λq=>(rb q).bl) j++[Po (J (O b.bl 0 Q))])
 size:u.heap.size<=w8.heap.size
 old:∀k,k<u.heap.size->V3.ownBlock≠J k->w8.heap[k]?=u.heap[k]?
 og:V3.ownBlock=J g\/u.heap.size<=g
 fit:Fit (ep []) w8
theorem pX.doc{n:Wd}{y:Rl}(hj:j<2)(h:pX wz kb B rr K C H lb rb i j I V3 κ w)(n1:Aj κ w j B K.nS y x k)(n2:Ho V3 rb j y k l b c)(D:nC (ep []) [C] l n)(W:F7 (ep []) n C)(G:n.cell? (O C 3 Q)=J (Sc (J (O b 0 Q)) (j+1) c))(M:∀m,m≠3->n.cell? (O C m Q)=l.cell? (O C m Q)):∃κ',pX wz kb B rr K C H lb (nM rb j y) i (j+1) I (Sc (J (O b 0 Q)) (j+1) c) κ' n:=by
 have s6:=n1.F.size;have s8:=n2.size;have s9:=D.size;have f':=h.size;have X:b<l.heap.size:=(j8 n2.row (g:=b) Z).2;have E:∀a,a<w.heap.size->k.heap[a]?=w.heap[a]?:=λa f=>n1.F.old a f Zc;have s:∀d,V3.ownBlock=J d->κ d=5/\d<w.heap.size:=λd g=>⟨h.g3 d g,(j8 h.o3 g).2⟩
 have F:∀a,a<l.heap.size->a≠C->n.heap[a]?=l.heap[a]?:=λa f t=>D.old a f (by simpa using t);have L:=h.rw.1.lt;have N:∀a,a<k.heap.size->a≠C->V3.ownBlock≠J a->n.heap[a]?=k.heap[a]?:=λa f t u=>(F a Za t).trans (n2.old a f u);have A:∀a,a<w.heap.size->κ a≠3->κ a≠5->n.heap[a]?=w.heap[a]?:=λa f t u=>(N a Za (λe=>t (by rw[e];exact h.rw.2)) λe=>u (s a e).1).trans (E a f);have gw:x b=5\/k.heap.size<=b:=n2.og.imp_left λe=>(n1.kk b (s b e).2).trans (s b e).1;have k0:∀a,k.heap.size<=a->x a=0:=λa f=>by
  rcases n1.nk a Za with e|⟨e,_⟩
  all_goals grind
 have gb:b≠C:=λe=>by
  rcases n2.og with q|q
  .have:=(s b q).1;rw[e,h.rw.2]at this;cases this
  .omega
 generalize g':(λa=>if a=b then 5 else x a)=κ';have a':κ' b=5:=by grind
 have b':∀a,a≠b->κ' a=x a:=λa v=>by grind
 have d':∀a,x a≠0->κ' a=x a:=λa o=>by
  grind
 have f:∀a,κ a≠0->κ' a=κ a:=λa o=>by
  have e:=n1.kk a (h.lt o)
  grind
 have P:∀a,a<wz.heap.size->κ a=0:=λa f=>by
  cases e:κ a with
  | zero=>rfl
  | succ d=>have:=h.low a (by grind);omega
 have R:∀m,m≠3->n.cell? (O C m Q)=w.cell? (O C m Q):=λm p=>by
  rw[M m p];exact Zf (w:=w) (a:=(O C m Q)) ((n2.old C Za λe=>by have:=(s C e).1;rw[h.rw.2]at this;cases this).trans (E C L))
 refine⟨κ',h.to (λa f=>A a Za (by rw[P a f];decide) (by rw[P a f];decide)) (λa h'=>?_) (λa o=>?_) Za f (λa o t h4 u=>A a (h.lt o) t u) W (λm p=>R m Za) ((R 2 Zb).trans h.c2) G (j5 h.o2 λd g=>A d (j8 h.o2 g).2 (by rw[h.g2 d g];decide) (by rw[h.g2 d g];decide)) (λd g=>(f d (by rw[h.g2 d g];decide)).trans (h.g2 d g)) ?_ (λd g=>?_) (λ_ _=>rfl) (λq v S=>absurd v Za) (λq v S=>absurd v Za) (λq hq=>wK Za) λq v S=>?_⟩
 .grind
 .by_cases T:a=b
  .subst T;rcases n2.og with q|q
   all_goals grind
  .rw[b' a T]at o;rcases bQ a w.heap.size with z|z
   .rw[n1.kk a z]at o;exact h.low a o
   .omega
 .rw[Kk,JV (g:=λq=>(rb q).bl) (λq hq=>by show((nM rb j y) q).bl=_;rw[wK Za]),vr];exact j5 n2.row λd g=>by
   obtain rfl:b=d:=Ze g;exact F b X gb
 .obtain rfl:b=d:=Ze g;exact a'
 .obtain rfl:q=j:=by omega
  rw[vr];refine n1.rl.same λa z p=>⟨d' a (Pq p),N a z (λe=>?_) λe=>?_⟩
  .rw[e,n1.kk C L,h.rw.2]at p;unfold oW at p;omega
  .rw[n1.kk a (s a e).2,(s a e).1]at p;unfold oW at p;omega
theorem pX.oO(h:pX wz kb B rr K C H lb rb i j I V3 κ w)(c:pK 75 (qh [(C,0)] u) m)(d:∀p∈u,p.2.ok 1):fx (ep []) [] 1 w [(C,0)] (xm kb B I V3 H) 75 u m w:=by
 refine⟨c,λe a=>?_,d,λq b=>?_,λq p b f g=>?_,λq l n=>?_,af _,λ_ _ _=>rfl,(h.co 0).env.fit,λk _=>D7 k⟩
 .simp only[xm,ae,aj,or_false]at a;rcases a with rfl|rfl|rfl|rfl|rfl<;>refine⟨cJ,mX,?_⟩
  .exact h.c0
  .exact h.c1
  .exact h.c2
  .exact h.c3
  .exact h.c4
 .obtain rfl:q=0:=Zm b;exact h.rw.1
 all_goals grind
theorem KN(hi:i<2)(h:pX wz kb B rr K C H lb rb (i+1) i I V3 κ w)(M:fx (ep []) [] 1 w [(C,0)] (xm kb B I V3 H) 75 (zE kb B i) m w)(N:∀b κ' f' P w',pX wz kb B rr K C H lb (nM rb i b) (i+1) (i+1) I f' κ' w'->fx (ep []) [] 1 w' [(C,0)] (xm kb B I f' H) 75 (zE kb B (i+1:Nat)++[(45,.c (.v (Bo (decide (((i+1:Nat):Int)<2)))))]) P w'->iv V true true (ep []) Stop (G ((base 8).at P Oy) (fr::cs)) w'):iv V true true (ep []) Stop (G ((base 8).at m Nl) (fr::cs)) w:=by
 have vb:∀x,V3.ownBlock=J x->κ x=5/\x<w.heap.size:=λx N=>⟨h.g3 x N,(j8 h.o3 N).2⟩
 have bv:V3.ownBlock≠J C:=λe=>by have:=(vb C e).1;rw[h.rw.2]at this;cases this
 have cn:=d0p (main:=true) (κ:=κ) i M.fit (λk _=>D7 k) h.R h.R.mem.hS;rw[h.rX.u.s]at cn;have W:=M.oZ (W':=V3.ownBlock.toList) Zc;have X:∀ {u:Wd},nC (ep []) [] w u->fx (ep []) V3.ownBlock.toList 1 w [(C,0)] (xm kb B I V3 H) 75 (zE kb B i) m u:=λ{u} F=>W.still F;have al:∀ {u:Wd} (o:Obj),nC (ep []) [] w u->nC (ep []) [] w (u.alloc o):=λ{u} o F=>⟨by have:=F.size;simp;omega,λk n _=>(aJ u o k (Zg n F.size)).trans (F.old k n Zc),(nC.alloc F.fit o).fit⟩
 refine uU [(6,Q),(7,Q),(8,Q),(11,Q)] [] true (λs p k' w'=>k'=[(C,0)]/\((s=0/\w'=w)\/(s=1/\∃b a,Aj κ w i B K.nS b a w'/\p 0=J (.c (.v (Po (J (O b.bl 0 Q))))))\/(s=2/\∃b a u,Aj κ w i B K.nS b a u/\w'=u.alloc (.cells #[Po (J (O b.bl 0 Q))] 58 (0,0))/\p 1=J (.c (.v (Sc (J (O u.heap.size 0 Q)) 1 1))))\/(s=3/\∃b a u g f,Aj κ w i B K.nS b a u/\Ho V3 rb i b u w' g f/\p 2=J (.c (.v (Sc (J (O g 0 Q)) (i+1) f))))\/(s=4/\∃b a u R g f,Aj κ w i B K.nS b a u/\Ho V3 rb i b u R g f/\nC (ep []) [C] R w'/\F7 (ep []) w' C/\w'.cell? (O C 3 Q)=J (Sc (J (O g 0 Q)) (i+1) f)/\∀c,c≠3->w'.cell? (O C c Q)=R.cell? (O C c Q)))) W Z (λ_=>rfl) (λ_=>by kernel_rfl) Z Zd mX (λs p g' w' P s' d S T=>?_) ⟨Z,.inl ⟨Z,Z⟩⟩ (λs j g l p o P w' g' t' z d Ma t y=>?_) λp g' u' v' d l' m'=>?_
 .obtain⟨A,d⟩:=d;obtain rfl:=Zk A;rcases d with⟨_,rfl⟩|⟨_,b,a,n1,_⟩|⟨_,b,a,u,n1,rfl,_⟩|⟨_,b,a,u,g,f,n1,n2,_⟩|⟨rfl,_⟩
  .exact W.bare S T
  .exact(X n1.F).bare S T
  .exact(X (al _ n1.F)).bare S T
  .have s1:=n1.F.size;refine((X n1.F).to n2.size (λq D=>?_) (λk n y=>n2.old k Za λe=>y (by rw[e];simp)) n2.fit).bare S T;obtain rfl:q=0:=Zm D;exact n2.old C (by have:=h.rw.1.lt;omega) bv
  grind
 .obtain⟨A,d⟩:=d;obtain rfl:=Zk A
  match s,l with
  | 0,l =>
   obtain⟨rfl,rfl⟩:=ax (Ze l);rcases d with⟨_,rfl⟩|⟨h,_⟩|⟨h,_⟩|⟨h,_⟩|⟨h,_⟩
   case inr.inl=>cases h
   case inr.inr.inl=>cases h
   case inr.inr.inr.inl=>cases h
   case inr.inr.inr.inr=>cases h
   obtain rfl:=Ze z;refine Cd cn z Z Z Tryz.func15 Z Z ?_ λx E D=>?_
   .simp only[dq,cX,eE,t (.tmp 68) (.c (.v (Po (J (O B.b 0 Q))))) Z];rfl
   .obtain⟨F,b,a,rfl,kk,nk,rl⟩:=D;exact y [] E (J (.c (.v (Po (J (O b.bl 0 Q)))))) ⟨by simp,.inr (.inl ⟨Z,b,a,⟨F,kk,nk,rl⟩,Z⟩)⟩ (.inl Z) (λsv h=>by obtain rfl:=Ze h;trivial)
  | 1,l =>
   obtain⟨rfl,rfl⟩:=ax (Ze l);rcases d with⟨h,_⟩|⟨_,b,a,n1,n'⟩|⟨h,_⟩|⟨h,_⟩|⟨h,_⟩
   case inl=>cases h
   case inr.inr.inl=>cases h
   case inr.inr.inr.inl=>cases h
   case inr.inr.inr.inr=>cases h
   obtain rfl:=Ze z;refine Cx (cells:=[Po (J (O b.bl 0 Q))]) JW ⟨by simp,by simp⟩ Z Z Z (t (.tmp 69) _ n') Z<|y [] _ (J (.c (.v (Sc (J (O w'.heap.size 0 Q)) 1 1)))) ⟨by simp,.inr (.inr (.inl ⟨Z,b,a,w',n1,Z,Z⟩))⟩ (.inl Z) (λsv h=>by obtain rfl:=Ze h;trivial)
  | 2,l =>
   obtain⟨rfl,rfl⟩:=ax (Ze l);rcases d with⟨h,_⟩|⟨h,_⟩|⟨_,b,a,u,n1,rfl,hx1⟩|⟨h,_⟩|⟨h,_⟩
   case inl=>cases h
   case inr.inl=>cases h
   case inr.inr.inr.inl=>cases h
   case inr.inr.inr.inr=>cases h
   obtain rfl:=Ze z;have s1:=n1.F.size;refine Ek (V:=V3) (n:=i) (cells:=[Po (J (O b.bl 0 Q))]) JW Z (λv L=>?_) Za ?_ Z Z Z (t (.tmp 67) (.c (.v V3)) Z) (t (.tmp 70) _ hx1) (cC _ _) (D7 _) (j5 h.o3 λg hg=>?_) (λg hg=>D7 _) (aW _) (al _ n1.F).fit (λk _=>D7 k) λg f E q1 q2 q3 q4 q5 q6=>?_
   .obtain rfl:=Zi L;rfl
   .obtain rfl|rfl:i=0\/i=1:=by omega
    all_goals decide
   .exact(al (.cells #[Po (J (O b.bl 0 Q))] 58 (0,0)) n1.F).old g (vb g hg).2 Zc
   .refine y [] E (J (.c (.v (Sc (J (O g 0 Q)) (i+1) f)))) ⟨by simp,.inr (.inr (.inr (.inl ⟨Z,b,a,u,g,f,n1,⟨q1,by simp at q2;omega,λk n L=>?_,q5.imp_right λe=>by rw[e.1];simp,q4⟩,Z⟩)))⟩ (.inl Z) (λsv h=>by obtain rfl:=Ze h;trivial);rw[q3 k (by simp;omega) L,aJ u _ k n]
  | 3,l =>
   obtain⟨rfl,rfl⟩:=ax (Ze l);rcases d with⟨h,_⟩|⟨h,_⟩|⟨h,_⟩|⟨_,b,a,u,g,f,n1,n2,o'⟩|⟨h,_⟩
   case inl=>cases h
   case inr.inl=>cases h
   case inr.inr.inl=>cases h
   case inr.inr.inr.inr=>cases h
   obtain rfl:=Ze z;have s1:=n1.F.size;have e8:w'.heap[C]?=w.heap[C]?:=(n2.old C (by have:=h.rw.1.lt;omega) bv).trans (n1.F.old C h.rw.1.lt Zc);obtain⟨c0,t0,p'⟩:=(h.rw.1.of e8).1;refine wS (b:=C) (p:=3) (cells:=[Sc (J (O g 0 Q)) (i+1) f]) Ma.lv Z Z Z Z p' (D7 _) Ma.fit (t (.tmp 73) _ Z) (t (.tmp 71) _ o') Z Z (λv L=>?_) (λq D=>?_) λE s1 s2 s3 s4 s5 s6=>?_
   .obtain rfl:=Zi L;rfl
   .obtain rfl:q=0:=Zm D;rw[Zf (w:=w) e8,h.c3];rfl
   .exact y [] E Q ⟨by simp,.inr (.inr (.inr (.inr ⟨Z,b,a,u,w',g,f,n1,n2,⟨by omega,λk _ n=>s2 k (by simpa using n),s6⟩,⟨s3,D7 _⟩,s4 0 _ Z,λc hc=>s5 c (by simp;omega)⟩)))⟩ (.inl Z) (λsv h=>by cases h)
  | s+4,l=>simp at l
 .obtain⟨A,d⟩:=d;obtain rfl:=Zk A;rcases d with⟨h,_⟩|⟨h,_⟩|⟨h,_⟩|⟨h,_⟩|⟨_,b,a,u,R,g,f,n1,n2,F9,r9,c3,co⟩
  .cases h
  .cases h
  .cases h
  .cases h
  obtain⟨κ',h9⟩:=h.doc hi n1 n2 F9 r9 c3 co;have M9:=h9.oO l' m';obtain rfl|rfl:i=0\/i=1:=by omega
  all_goals
   refine ia 200 1 [] M9 Z Z mX λq' r' h'=>N b κ' _ q' r' (h9.still h'.hJ) (h'.nm.oo 1 [1,6,8,10,11,45] Z Z)
theorem LB(h:w.ownsRow 0 a 1 q 2 (sT x 2)):∃g b,q=Sc (J (O g 0 Q)) 2 b/\∀i,i<2->w.cell? (O g i Q)=J (Po (J (O (x i) 0 Q))):=by
 rcases h.2 with⟨_,e⟩|⟨g,b,d,rfl,_,hh,_,_,_,c⟩
 .cases e
 refine⟨g,b,Z,λi k=>?_⟩;have f:(d.toList.take 2)[i]?=J (Po (J (O (x i) 0 Q))):=by
  have c:d.toList.take 2=sT x 2:=c;rw[c];obtain rfl|rfl:i=0\/i=1:=by omega
  .rfl
  .rfl
 rw[eO,mZ k]at f;simp only[aC,hh];simpa using f
theorem pX.pw(h:pX wz kb B rr K C H lb rb 2 2 I V3 κ w)(f:2<=K.nF/\K.nF<=32/\K.nD<=4):∃P S,P.bw=C/\P.kb=kb/\∀r,Pw [] su r uo 1 w κ P S K 0:=by
 obtain⟨l,m,rfl,n⟩:=LB h.o2;obtain⟨s,t,rfl,u⟩:=LB h.o3;refine⟨⟨kb,B,C,l,m,s,t,H,lb,λi=>(lb i).bl+1,rb,K.nS⟩,⟨λ_ _=>Q,λ_ _=>Sc Q 0 0,λ_ _=>0,λ_ _=>[],λ_ _=>Q,λ_ _=>s0,λ_=>Sc Q 0 0,λ_=>0,λ_=>[],λk=>if k=H then J .hd else Q,rr⟩,Z,Z,λr=>?_⟩;have y:pG (ep []) κ w H (λ_=>Sc Q 0 0) (λ_=>0) (λ_=>[]) (λk=>if k=H then J .hd else Q):=by
  refine⟨h.uS.2,λc _=>dc _ _ _ _,mZ Z,λc g _ b=>(by cases b),λg x b=>?_,λg c k L b=>?_,λc i _ a=>absurd a Za⟩
  .split at b
   .next e=>subst e;exact⟨h.uS.1.2,h.uS.1.1⟩
   .cases b
  grind
 exact⟨h.co r,Z,λi a=>h.lm i a,λi a=>⟨(h.lc i a).1,(h.lc i a).2.1,(h.lc i a).2.2,λp g _ b=>(by cases b)⟩,λk d=>h.mw (h.low k d) (h.lt d),⟨h.R,h.Rc,h.rX,λi a=>h.rl i a,y,h.c0,h.c1,h.c2,h.c3,h.c4,λi a=>⟨n i a,u i a⟩,h.rw,⟨⟨DZ h.o2 Z,D7 _⟩,h.g2 _ Z⟩,⟨⟨DZ h.o3 Z,D7 _⟩,h.g3 _ Z⟩⟩,λi p _ _=>.inl ⟨Z,Z⟩,λi p j q o E _ _ _ _ z=>(by cases z),λg v A=>(by cases A),f,by decide,λi p _ _=>af _,λi p T _ _ e=>(by cases e),λc _=>af _,λi p x _ _ D=>(by cases D)⟩
theorem Du{sft:Nat->Nat}{W:List Nat}{T:Nat}{w:Wd}{f:ou}{c:Option cx}{o:aL}(M:fx sft W a k f y b u m w)(g:pJ u (.tmp d)=J (.c (.v (.pointer c))))(h:T=32\/T=36\/T=37)(n:o.op=.binOp .eql T (.tmp d) (.const (Po Q)) T):(Ex m.eval o).run V l=.ok (.value (Bo c.isNone)) l:=by
 have e:m.eval (.tmp d)=.pointer c:=(M.rd g).1;unfold Ex;simp only[n,e];rcases h with rfl|rfl|rfl<;>cases c<;>rfl
theorem UC(T:qn w)(h l m:Nat)(A:2<=h)(G:h<=32)(X:1<=l)(h4:l<=6)(h5:m<=4):oL true (ep []) 8 #[.agg #[vi h,vi l,vi m],Bo true] w λx w'=>∃P S κ,x=.tuple #[Po (J (O P.bw 0 Q)),Bo true]/\(∀r,Pw [] su r uo 1 w' κ P S (K6 h l m) 0)/\P.kb.fo=uo/\w.heap.size<=P.kb.bk/\yC P.kb su κ w w':=by
 refine y7 (sz:=75) (ρ:=[]) (m:=[]) (W:=[]) (ro:=0) [.g [ci h,ci l,ci m],.c (.v (Bo true))] ⟨λe he=>(by cases he),λi n=>(by cases n),λi j n=>(by cases n),λi _ n=>(by cases n),S8 w,λk _=>D7 k⟩ (λs hs=>?_) gL Z Z Z λStop fr cs R' M D=>?_
 .simp only[ae,aj,or_false]at hs;rcases hs with rfl|rfl
  .intro x D;simp only[ae,aj,or_false]at D;rcases D with rfl|rfl|rfl<;>trivial
  .trivial
 refine sw 200 0 [] M Z Z mX λa1 w1 bc t=>?_;have T1:qn w1:=T.same (t.old 0 T.lt Zc);refine A4 t (Zq T1 h l m A G X h4 h5) Z Z Z jW Z Z Z Z Z λx E d=>?_;obtain⟨kb,rfl,v',F,y1,y2,y3,y4,co⟩:=d;have z1:=t.size;have z2:=F.size;have F2:nC (ep []) [] w1 E:=⟨F.size,λk f _=>F.old k f,S8 _⟩;have L:=(co 0).env.rep;have T2:=(co 0).env.oq.lt;refine E3 (t.still F2) 1 (.t [.c (.v (Po (J (O kb.bk 0 Q)))),.c (ci 0)]) Z Z Z Z Z λa3 M3=>ia 200 1 [] (M3.next (S8 _) (λk _=>D7 k) (λq d=>⟨D7 _,Z⟩) M3.lv M3.wf) Z Z mX λa4 w4 y=>A4 y (Uw y.fit h l m A G X h4 h5) Z Z Z Tryz.func13 Z Z Z Z Z λx w5 d=>?_;obtain⟨B,rr,rfl,R,x',F5,bB⟩:=d;refine E3 (y.still F5) 1 (.t [.c (.v (Po (J (O B.b 0 Q)))),.c (ci 0)]) Z Z Z Z Z λa6 M6=>ia 200 1 [] (M6.next (S8 _) (λk _=>D7 k) (λq d=>⟨D7 _,Z⟩) M6.lv M6.wf) Z Z mX λa7 w7 M7=>vR (.c (.v (Bo false))) M7 Z Z Z Zd Z Z Z mX (λo u z hu=>Du M7 Z (.inr (.inl Z)) z) λa8 M8=>ia 200 1 [] M8 Z Z mX λa9 w9 M9=>vR (.c (.v (Bo false))) M9 Z Z Z Zd Z Z Z mX (λo u z hu=>Du M9 Z (.inr (.inr Z)) z) λa10 y'=>ia 200 1 [] y' Z Z mX λa11 w11 o'=>nR o' Z Z<|ia 200 1 [] o' Z Z mX λa12 w12 p'=>vR (.c (.v (Bo false))) p' Z Z Z Zd Z Z Z mX (λo u z hu=>Du p' Z (.inr (.inl Z)) z) λa13 z'=>ia 200 1 [] z' Z Z mX λa14 w14 q'=>nR q' Z Z<|pQ 200 1 [] q' Z Z mX λa15 N H C a=>?_;have lw:N.heap.size > C:=F7.lt (a.bl 2 Zc);have c':N.heap.size > H:=F7.lt (a.bl 1 Zc);have nw:w5.heap.size<=C:=(a.own 2 Zc Zc).resolve_left Zc;have nb:w5.heap.size<=H:=(a.own 1 Zc Zc).resolve_left Zc;have ne:H≠C:=a.ij 1 2 Zc Zc Zb;have z4:=y.size;have z5:=F5.size;have z15:=a.size;have r':∀k,k<E.heap.size->N.heap[k]?=E.heap[k]?:=λk f=>(a.old k Za Zc).trans ((F5.old k Za Zc).trans (y.old k f Zc));obtain⟨κ,A',B',C',D'⟩:∃κ:Nat->Nat,(∀k,B.is rr k->κ k=1)/\κ C=3/\κ H=6/\∀k,κ k≠0->B.is rr k\/k=C\/k=H:=by
  classical
  have nB:∀k,w5.heap.size<=k->¬B.is rr k:=λk f hB=>by have:=R.lt hB;omega
  refine⟨λk=>if B.is rr k then 1 else if k=C then 3 else if k=H then 6 else 0,λk f=>mZ f,?_,?_,λk f=>?_⟩
  all_goals grind
 have hm:pX E kb B rr (K6 h l m) C H (λ_=>⟨0,0,0⟩) (λ_=>⟨0,0,0,0⟩) 0 0 s0 s0 κ N:=by
  refine⟨λr=>(co r).grown ⟨by omega,r',mX⟩,⟨L.lk,L.lf,L.ls,L.ld,T2⟩,by omega,r',λk f=>?_,λk f=>?_,R.keep λk hB=>a.old k (R.lt hB) Zc,A',⟨x',NJ h l m A X h4⟩,a.ld 2 0 Z,a.ld 2 1 Z,a.ld 2 2 Z,a.ld 2 3 Z,a.ld 2 4 Z,⟨a.bl 2 Zc,B'⟩,⟨⟨a.bl 1 Zc,C'⟩,λc hc=>?_⟩,dc _ _ _ _,λg hg=>(by cases hg),dc _ _ _ _,λg hg=>(by cases hg),λq d=>absurd d Za,λq d=>absurd d Za,λq d=>absurd d Za⟩
  .cases e:κ k with
   | zero=>rfl
   | succ x =>
    rcases D' k (by rw[e];exact Nat.succ_ne_zero x) with q|q|q
    .have:=R.lt q;omega
    all_goals grind
  .grind
  .cases c,(Za:c<4) using eL
   .exact a.ld 1 0 Z
   .exact a.ld 1 1 Z
   .exact a.ld 1 2 Z
   .exact a.ld 1 3 Z
 have MA:=a.oo 3 [1,6,8,10,11,45] Z Z;refine Od (i:=0) Zb hm (hm.oO MA.lv ?_) λb κ1 V1 a16 w16 E' F'=>?_
 .intro p hp;simp only[zE,cj,eP,ae,aj,or_false]at hp;rcases hp with rfl|rfl|rfl|rfl|rfl|rfl<;>first|trivial|exact cJ
 refine KN (i:=0) Zb E' F' λb' κ2 I a17 w17 H' K'=>Od (i:=1) Zb H' K' λb3 κ3 V3 a18 w18 L' M'=>KN (i:=1) Zb L' M' λb4 s' V4 a19 w19 N' t'=>nR t' Z Z<|ia 200 1 [] t' Z Z mX λa20 w20 u'=>A9 u' gL Z Z Z ?_;have W:=N'.still u'.hJ;obtain⟨P,S,rfl,rfl,hP⟩:=W.pw ⟨A,G,h5⟩;refine D _ _ ⟨P,S,s',Z,hP,v',by omega,λk f=>?_⟩;have kz:=W.kz;have e:=W.old k Za;refine⟨⟨D9 Za e,by omega,by omega,by omega,λg v hv=>(by cases hv)⟩,?_,e.trans ((F.old k Za).trans (t.old k f Zc))⟩
 cases e:s' k with
 | zero=>rfl
 | succ x=>have:=W.low k (by rw[e];exact Nat.succ_ne_zero x);omega
def Wp.pR(P:Wp)(a:Nat->Option eZ)(b:List ng)(fz:Nat):Wp:={ P with kb:={ P.kb with fo:=a,fl:=b,fz:=fz } }
def Of(kb:Kb)(L:Nat->Option Lv)(κ:Nat->Nat)(k:Nat):Prop:=κ k≠0\/(k=kb.bk\/k=kb.bf\/k=kb.bs\/k=kb.bd)\/∃g v,L g=J v/\(k∈v.pv\/v.ch k)
def qg(L:Nat->Option Lv)(g:Nat):Option eZ:=(L g).map λv=>J0 v.C.o v.cs
variable{l H:List ng}{L L' L1 b':Nat->Option Lv}{κ1 c':Nat->Nat}{k:Nat}{r' nG I t:Nat}{Inb C:Nat->Option eZ}{P:Wp}{S:Ws}{K':aa}
section
variable{r:Nat}
theorem Pw.of_lt(h:Pw l L r Inb nG w κ P S K t)(a:Of P.kb L κ k):k<w.heap.size:=by
 have R:=h.co.env.rep;rcases a with a|(rfl|rfl|rfl|rfl)|⟨g,v,hv,a|a⟩
 .exact h.Ba a
 .exact R.lk
 .exact R.lf
 .exact R.ls
 .exact R.ld
 .exact h.co.rA hv a
 .exact h.co.oX hv a
theorem F3.un(a:F3 kb L κ w L' κ' w')(h:¬Of kb L κ k)(b:k<w.heap.size):¬Of kb L' κ' k/\w'.heap[k]?=w.heap[k]?:=by
 unfold Of at h ⊢;let⟨d,m,c⟩:=a k ⟨b,by grind,by grind,by grind,λg v e=>by grind⟩ (by grind);refine⟨λq=>?_,c⟩;have:=m.own;have:=m.nf
 grind
theorem yC.no(h:yC kb L κ w w')(b:w.heap.size<=kb.bk)(a:k<w.heap.size):¬Of kb L κ k:=λq=>by
 let⟨m,e,_⟩:=h k a;have:=m.own;have:=m.nf;have:=m.ns;have:=m.nd;unfold Of at q
 grind
theorem Pw.to{D:Nat->Option eZ}{F:List ng}{fz:Nat}(h:Pw l L r Inb nG w κ P S K t)(hz:w.heap.size<=w'.heap.size)(y:∀k,Of P.kb L κ k->w'.heap[k]?=w.heap[k]?)(T:qn w')(m':Fit (ep H) w')(ko:KO H w')(l1:∀o∈l,o∈H)(l2:∀o∈H,o∈l\/w.heap.size<=o.bo)(gd:∀g v,L g=J v->g<I)(W:0<I)(st:∀g v,L g=J v->C g=J (J0 v.C.o v.cs))(no:∀g,g≠0->L g=Q->C g=D g)(m0:∀s c,C 0=J s->s.has c->c<w'.heap.size)(fe:∀g s,D g=J s->L g=Q/\0<g/\g<I/\∀c,s.has c->c<w'.heap.size/\∀g' v,L g'=J v->¬v.ch c)(ff:fz<=w'.heap.size/\(∀o∈F,o∈H)/\∀o∈H,o∈F\/fz<=o.bo) :
  Pw H L r C I w' κ (P.pR D F fz) S K t:=by
 have x:=h.co;have E:=x.env;have R:=E.rep;have M:∀ {k},k<w.heap.size->(∀o∈l,o.bo≠k)->∀o∈H,o.bo≠k:=λ{k} q1 N o X e=>by
  rcases l2 o X with q|q
  .exact N o q e
  .omega
 have mw:∀ {k},Mw P.kb l L w k->Mw (P.pR D F fz).kb H L w' k:=λm=>⟨⟨Zg m.mn.lt hz,m.mn.nf,m.mn.ns,m.mn.nd,m.mn.own⟩,m.bk,m.oq,M m.mn.lt m.rc⟩
 have E':vL (P.pR D F fz).kb H K w':=⟨R.same hz λk _ q=>y k (.inr (.inl q)),T,E.inv,m',ko,λo X=>by
  rcases l2 o X with q|q
  .exact E.ap o q
  .have:=R.lk;have:=R.lf;have:=R.ls;have:=R.ld;have:=E.oq.lt
   refine⟨?_,?_,?_,?_,?_⟩<;>(intro e;rw[e]at q)<;>first|omega|exact absurd q (Nat.not_le.2 ‹_›)⟩
 have on:∀g v,L g=J v->tI (P.pR D F fz).kb v.C:=λg v u=>by
  let⟨a,b,c,d⟩:=x.rq g v u;exact⟨a,b,c,d⟩
 refine⟨⟨E',x.top,λg v u=>⟨(x.gid g v u).1,(x.gid g v u).2.1,gd g v u⟩,on,λg v u=>?_,x.wait,st,no,m0,λg v u c hc=>?_,x.ql,x.pk,x.apart,fe,ff⟩,h.nS,λi z=>?_,h.lc,λk y=>mw (h.mw k y),?_,h.tie,h.one,h.all,h.sz,W,h.tN,h.tL,h.tB,h.xi⟩
 .let⟨f,n,A⟩:=x.at_ g v u;exact⟨f,n,(on g v u).env E',l1 _ A.mem,A.own,λi z=>(y i (.inr (.inr ⟨g,v,u,.inl z⟩))).trans (A.has i z),A.row,A.top,λi z h0=>M (A.lt z) (A.pC i z h0)⟩
 .let⟨⟨n',k,q1⟩,N,q3,q4,q5,q6,q7⟩:=x.chan g v u c hc;exact⟨⟨n',k,(y c (.inr (.inr ⟨g,v,u,.inr hc⟩))).trans q1⟩,N,q3,q4,q5,q6,M (x.oX u hc) q7⟩
 .have m:=h.lm i z;have G:=h.lc i z;exact⟨⟨m.m.is.same (y _ (.inl (by rw[G.1];omega))) (y _ (.inl (by rw[G.2.1];omega))) (y _ (.inl (by rw[G.2.2.1];omega))) λp W g hg=>y g (.inl (by rw[G.2.2.2 p g W hg];omega)),mw m.m.qt,mw m.m.qo,mw m.m.qU,λp W g hg=>mw (m.m.qJ p W g hg),m.m.b0⟩,m.live⟩
 .have q:Pm (ep H) κ w' P S K:=h.pm.move λk _ N=>⟨Z,y k (.inl N.1),(mw (h.mw k N.1)).sf⟩
  exact⟨q.R,q.Rc,q.rX,q.rl,q.bk,q.w0,q.w1,q.w2,q.w3,q.w4,q.l,q.rw,q.r4,q.r5⟩
theorem Pw.pR{b:Nat->Option eZ}{a:List ng}{fz:Nat}(h:Pw l L r Inb nG w κ P S K t)(e:P.kb.fo=b)(c:fz<=w.heap.size/\(∀o∈a,o∈l)/\∀o∈l,o∈a\/fz<=o.bo):Pw l L r Inb nG w κ (P.pR b a fz) S K t:=by
 subst e;exact h.to (af _) (λ_ _=>rfl) h.co.env.oq h.fit h.co.env.ko (λ_ q=>q) (λ_ q=>.inl q) (λg v d=>(h.co.gid g v d).2.2) h.pos h.co.qj h.co.none h.co.pE h.co.rV c
theorem Cq:0<=w.heap.size/\(∀o∈([]:List ng),o∈l)/\∀o∈l,o∈([]:List ng)\/0<=o.bo:=⟨aW _,λo a=>(by cases a),λo _=>.inr (aW _)⟩
theorem FR(h:L a=J D):qg L a=J (J0 D.C.o D.cs):=by simp[qg,h]
theorem IH(h:L a=Q):qg L a=none:=by simp[qg,h]
theorem Pw.beside(h:Pw l L r Inb nG w κ P S K t)(D:∀k,Of P.kb L κ k->¬Of kb L1 κ1 k)(b:Co kb H K' b' r' C I w')(p:0<I)(x:F3 kb L1 κ1 w b' c' w')(e:kb.fo=qg L)(y:kb.fl=l)(z:kb.fz=w.heap.size):Pw H L r C I w' κ (P.pR (qg b') [] 0) S K t:=by
 have f:=b.rK;rw[y,z]at f;have o:=λk d=>x.un (D k d) (h.of_lt d);have n:=λg v (a:L g=J v)=>b.rV g _ (show kb.fo g=J (J0 v.C.o v.cs) by rw[e];exact FR a);refine h.to f.1 (λk d=>(o k d).2) b.env.oq b.env.fit b.env.ko f.2.1 f.2.2 (λg v a=>(n g v a).2.2.1) p (λg v a=>?_) (λg A E=>?_) b.pE (λg s F=>?_) Cq
 .have q:=n g v a;rw[b.none g Za q.1,e];exact FR a
 .cases q:b' g with
  | none=>rw[b.none g A q,e,IH E,IH q]
  | some v=>rw[b.qj g v q,FR q]
 .obtain⟨v,a,rfl⟩:=dC.1 F;have m:∀ {c},(J0 v.C.o v.cs).has c->v.ch c:=λ{c} m=>by rcases U6 m with q|q;exact .inl q;exact .inr (.inr q)
  refine⟨?_,(b.gid g v a).2.1,(b.gid g v a).2.2,λc q=>⟨b.oX a (m q),λN u R T=>(o c (.inr (.inr ⟨N,u,R,.inr T⟩))).1 (.inr (.inr ⟨g,v,a,.inr (m q)⟩))⟩⟩
  cases q:L g with
  | none=>rfl
  | some u=>rw[(n g u q).1]at a;cases a
end
structure qv (w0:Wd) (l:List ng) (L1 L2:Nat->Option Lv) (r1 r2:Nat) (Inb:Nat->Option eZ) (nG:Nat) (w:Wd) (κ1 κ2:Nat->Nat) (P1 P2:Wp) (S1 S2:Ws) (K1 K2:aa) (t1 t2:Nat):Prop where
 a:Pw l L1 r1 Inb nG w κ1 (P1.pR (qg L2) [] 0) S1 K1 t1
 b:Pw l L2 r2 Inb nG w κ2 (P2.pR (qg L1) [] 0) S2 K2 t2
 d:∀k,Of P1.kb L1 κ1 k->¬Of P2.kb L2 κ2 k
 o:∀k,k<w0.heap.size->w.heap[k]?=w0.heap[k]?/\¬Of P1.kb L1 κ1 k/\¬Of P2.kb L2 κ2 k
 z:w0.heap.size<=w.heap.size
variable{w0:Wd}{L2:Nat->Option Lv}{e':Nat->Nat}{r1 r2 t1 t':Nat}{E R:Wp}{S1 h' S2:Ws}{K1 g' K2:aa}{f':gW->lT->Prop}
section
variable{t2:Nat}{r:Nat}
theorem qv.swap(h:qv w0 l L1 L2 r1 r2 Inb nG w κ1 e' E R S1 S2 K1 K2 t1 t2):qv w0 l L2 L1 r2 r1 Inb nG w e' κ1 R E S2 S1 K2 K1 t2 t1:=⟨h.b,h.a,λk b c=>h.d k c b,λk a=>⟨(h.o k a).1,(h.o k a).2.2,(h.o k a).2.1⟩,h.z⟩
theorem qv.grown(h:qv w0 l L1 L2 r1 r2 Inb nG w κ1 e' E R S1 S2 K1 K2 t1 t2)(F:nC (ep l) [] w w'):qv w0 l L1 L2 r1 r2 Inb nG w' κ1 e' E R S1 S2 K1 K2 t1 t2:=⟨h.a.grown F,h.b.grown F,h.d,λk a=>⟨(F.old k (Zg a h.z) Zc).trans (h.o k a).1,(h.o k a).2⟩,Zh h.z F.size⟩
theorem qv.ready(h:qv w0 l L1 L2 r1 r2 Inb nG w κ1 e' E R S1 S2 K1 K2 t1 t2):Pw l L1 r1 Inb nG w κ1 (E.pR (qg L2) l w.heap.size) S1 K1 t1:=h.a.pR Z ⟨af _,λ_ q=>q,λ_ q=>.inl q⟩
theorem qv.Bj(h:qv w0 l L1 L2 r1 r2 Inb nG w κ1 e' E R S1 S2 K1 K2 t1 t2)(a:Pw H b' r C I w' c' (E.pR (qg L2) l w.heap.size) h' g' t')(c:F3 (E.pR (qg L2) l w.heap.size).kb L1 κ1 w b' c' w'):qv w0 H b' L2 r r2 C I w' c' e' E R h' S2 g' K2 t' t2:=by
 refine⟨a.pR Z Cq,h.b.beside (kb:=(E.pR (qg L2) l w.heap.size).kb) (λk d b=>h.d k b d) a.co a.pos c Z Z Z,λk d b=>(c.un (kb:=(E.pR (qg L2) l w.heap.size).kb) (λq=>h.d k q b) (h.b.of_lt b)).1 d,λk e=>?_,Zh h.z a.co.rK.1⟩;let⟨f,g,m⟩:=h.o k e;let⟨n,o⟩:=c.un (kb:=(E.pR (qg L2) l w.heap.size).kb) g (Zg e h.z);exact⟨o.trans f,n,m⟩
theorem Kt{c d a A B:Int}{m:Bool}(b:qv w0 l L1 L2 (r+1) r2 Inb nG w κ1 e' E R S1 S2 K1 K2 t1 t2)(n:t1<=1000000000000)(o:-9223372036854775808<=g/\g<9223372036854775808)(p:-9223372036854775808<=a/\a<9223372036854775808)(q:∀H b' C I w' c' h' g',qv w0 H b' L2 r r2 C I w' c' e' E R h' S2 g' K2 (t1+1) t2->iv V true true (ep H) (X V f' H C I 0) (G (fr.finish (Bo true)) cs) w') :
  iv V true true (ep l) (X V f' l Inb nG 0) (G (ay V 9 #[Po (J (O E.bw 0 Q)),.agg #[vi e,vi f,vi g,vi h,vi c,vi d,vi a,vi A,vi B,Bo m]] .normal) (fr::cs)) w :=
 d1l (P:=E.pR (qg L2) l w.heap.size) b.ready n o p λ_ _ _ _ _ _ _ _ s u=>q _ _ _ _ _ _ _ _ (b.Bj s u)
theorem c6J(h:qv w0 l L1 L2 r1 r2 Inb nG w κ1 e' E R S1 S2 K1 K2 t1 t2)(d:t1+34<=1000000000000)(e:∀b' C w' ,Pw l L2 r2 C nG w' e' (R.pR (qg b') [] 0) S2 K2 t2->(∀g,qg b' g=Q)->(∀k,k<w0.heap.size->w'.heap[k]?=w0.heap[k]?/\¬Of R.kb L2 e' k)->w0.heap.size<=w'.heap.size->iv V true true (ep l) (X V f' l C nG 0) (G (fr.finish (Bo true)) cs) w') :
  iv V true true (ep l) (X V f' l Inb nG 0) (G (ay V 11 #[Po (J (O E.bw 0 Q))] .normal) (fr::cs)) w :=
 tV (P:=E.pR (qg L2) l w.heap.size) h.ready d λL' C w' κ' a f b=>e L' C w' (h.b.beside (kb:=(E.pR (qg L2) l w.heap.size).kb) (λk m n=>h.d k n m) a h.a.pos b Z Z Z) (λg=>IH (f g)) (λk c=>by
  let⟨o,p,q⟩:=h.o k c
  exact⟨(b.un (kb:=(E.pR (qg L2) l w.heap.size).kb) p (Zg c h.z)).2.trans o,q⟩) (Zh h.z a.rK.1)
end
theorem WE(a:-9223372036854775808<=e/\e<9223372036854775808)(N:-9223372036854775808<=f/\f<9223372036854775808)(g:¬Aq e f h):oL true (ep []) 8 #[.agg #[vi e,vi f,vi h],Bo true] w λv w'=>v=.tuple #[Po Q,Bo true]/\nC (ep []) [] w w':=by
 refine y7 (sz:=75) (ρ:=[]) (m:=[]) (W:=[]) (ro:=0) [.g [ci e,ci f,ci h],.c (.v (Bo true))] ⟨λa' T=>(by cases T),λi b=>(by cases b),λi j b=>(by cases b),λi _ b=>(by cases b),S8 w,λk _=>D7 k⟩ (λs m=>?_) gL Z Z Z λStop fr cs m' M a=>?_
 .simp only[ae,aj,or_false]at m;rcases m with rfl|rfl
  .intro e a;simp only[ae,aj,or_false]at a;rcases a with rfl|rfl|rfl<;>trivial
  .trivial
 refine sw 200 0 [] M Z Z mX λa1 w1 bc n=>A4 n (Pa (S8 _) Zd (TI e f h g)) Z Z Z jW Z Z Z Z Z λv w2 d=>?_;obtain⟨rfl,W⟩:=d;refine E3 (n.still W) 1 (.t [.c (.v (Po Q)),.c (ci 1)]) Z Z Z Z Z λa3 G=>ia 200 1 [] G Z Z mX λa4 w4 p=>A4 p (Pa (S8 _) Zd (WG e f h ‹_› N g)) Z Z Z Tryz.func13 Z Z Z Z Z λv w5 d=>?_;obtain⟨rfl,X⟩:=d;refine E3 (p.still X) 1 (.t [.c (.v (Po Q)),.c (ci 1)]) Z Z Z Z Z λa6 M6=>ia 200 1 [] M6 Z Z mX λa7 w7 q=>vR (.c (.v (Bo true))) q Z Z Z Zd Z Z Z mX (λo u c x=>Du q Z (.inr (.inl Z)) c) λa8 M8=>ia 200 1 [] M8 Z Z mX λa9 w9 y=>vR (.c (.v (Bo true))) y Z Z Z Zd Z Z Z mX (λo u c x=>Du y Z (.inr (.inr Z)) c) λn' d'=>ia 200 1 [] d' Z Z mX λo' p' z=>nR z Z Z<|ia 200 1 [] z Z Z mX λq' s' A=>vR (.c (.v (Bo true))) A Z Z Z Zd Z Z Z mX (λo u c x=>Du A Z (.inr (.inl Z)) c) λu' k'=>ia 200 1 [] k' Z Z mX λv' x' D=>nV D Z Z<|ia 200 1 [] D Z Z mX λy' z' F=>A9 F gL Z Z Z<|a _ _ ⟨Z,F.hJ⟩
theorem Sb{P:Go.Program}{a:Func}{b:Fm'}{d:List bh}{w:Wd}(e:b.kind=.normal)(f:m.defers=[])(g:P.funcs[b.fn]?=J a)(h:P.inits.idxOf? b.fn=Q)(c:ResultsC P a m.tmps q) :
  bF P true (G { b.at m d with mode:=.returning } []) w=.ended (.done q) w #[]:=by
 simp[G,bF,unwind,doReturn,Frame.at,e,f,g,h,(c w).1,(c w).2,seen,eY]
theorem MZ{w:Wd}(T:qn w)(o:-9223372036854775808<=e/\e<9223372036854775808)(p:-9223372036854775808<=f/\f<9223372036854775808):oL true (ep []) 8 #[.agg #[vi e,vi f,vi g],Bo true] w λv w'=>∃h,v=.tuple #[.pointer h,Bo true]/\nC (ep []) [] w w'/\(h=Q\/∃P S κ K,h=J (O P.bw 0 Q)/\(∀r,Pw [] su r uo 1 w' κ P S K 0)/\P.kb.fo=uo/\w.heap.size<=P.kb.bk/\yC P.kb su κ w w'):=by
 intro Stop fr cs c
 by_cases n:Aq e f g
 .obtain⟨a,b,d,rfl,rfl,rfl,s,u,x,y,z⟩:∃a b d:Nat,e=a/\f=b/\g=d/\2<=a/\a<=32/\1<=b/\b<=6/\d<=4:=by
   unfold Aq at n;exact⟨e.toNat,f.toNat,g.toNat,by omega,by omega,by omega,by omega,by omega,by omega,by omega,by omega⟩
  refine UC T a b d s u x y z Stop fr cs λv w' m=>?_;obtain⟨P,S,κ,rfl,q⟩:=m;exact c _ _ ⟨_,Z,⟨q.2.2.2.size,λk c _=>(q.2.2.2 k c).2.2,S8 _⟩,.inr ⟨P,S,κ,_,Z,q⟩⟩
 .refine WE o p n Stop fr cs λv w' m=>?_;obtain⟨rfl,F⟩:=m;exact c _ _ ⟨Q,Z,F,.inl Z⟩
def xE(q:Nat):List bh:=match Tryz.f6.body with
 | some (.seq _ (.seq _ (.seq _ (.seq _ (.seq (.seq _ (.block b (.loop (.seq (.seq (.region n ops d) y) (.seq (.block b1 (.seq c8 (.seq c10 c12))) c7))))) e))))) =>
  let r:=[.inLoop (.seq (.seq (.region n ops d) y) (.seq (.block b1 (.seq c8 (.seq c10 c12))) c7)),.inBlock b,.code e]
  match q with
  | 0=>.inRegion ops [4,5,6,7,8,9,10,11,12]::.code y::.code (.seq (.block b1 (.seq c8 (.seq c10 c12))) c7)::r
  | 1=>.code (.seq (.block b1 (.seq c8 (.seq c10 c12))) c7)::r
  | 2=>.code (.seq c10 c12)::.inBlock b1::.code c7::r
  | 3=>.code c12::.inBlock b1::.code c7::r
  | _=>[.code e]
 | _=>[]
variable{n m i' j':Nat}{sa sb:Option cx}
abbrev pA(b:Nat):Sv:=.c (.v (Po (J (O b 0 Q))))
abbrev tT:Sv:=.c (.v (Bo true))
abbrev xB(E R:Wp)(sa sb:Option cx)(n m i' j' i:Nat):l9:=[(2,.c (.v (.slice sa n i'))),(3,.c (.v (.slice sb m j'))),(9,pA E.bw),(10,tT),(11,pA R.bw),(13,.c (ci i))]
theorem Ty{i:Nat}{l:List ng}{L1 L2:Nat->Option Lv}{r2 nG t1 t2:Nat}{Inb:Nat->Option eZ}{w:Wd}{κ1 e':Nat->Nat}{S1 S2:Ws}{K1 K2:aa}{a:cZ}(hS:xd w0 sa n)(hn:n<=1048576)(T:qv w0 l L1 L2 (n - i) r2 Inb nG w κ1 e' E R S1 S2 K1 K2 t1 t2)(ht:t1<=i)(M:fx (ep l) [] 0 w [] [] 112 (xB E R sa sb n m i' j' i) a w)(u:∀H b' C I w' c' h' g' y z,qv w0 H b' L2 (n - (i+1)) r2 C I w' c' e' E R h' S2 g' K2 y t2->y<=i+1->fx (ep H) [] 0 w' [] [] 112 (xB E R sa sb n m i' j' i) z w'->iv V true true (ep H) (X V f' H C I 0) (G ((base 6).at z (xE 2)) []) w') :
  iv V true true (ep l) (X V f' l Inb nG 0) (G ((base 6).at a (xE 1)) []) w:=by
 refine ia 9 0 [] M Z Z mX λa1 w1 f=>?_
 by_cases hi:i<n
 .rw[decide_eq_true (show(i:Int)<n by omega)]at f;obtain⟨g,o,D,s,F,N,W,x2,kd,A,B,ot,rfl,hg,hr,o',p'⟩:=hS i hi;refine ia 1 0 [] f Z Z mX λa2 w2 b=>nV b Z Z ?_;have p:=T.grown b.hJ;refine ia 200 0 [yI D s F N W x2 kd A B ot] b.nm Z Z ⟨⟨mX,by omega⟩,⟨Zg hg p.z,by simp,λj v hv=>?_⟩⟩ λa3 w3 c=>?_
  .rw[Zf (w:=w0) (p.o g hg).1];simpa using hr j v hv
  have d:=p.grown c.hJ;rw[show n - i=n - (i+1)+1 by omega]at d;refine wX (vs:=[Po (J (O E.bw 0 Q)),.agg #[vi D,vi s,vi F,vi N,vi W,vi x2,vi kd,vi A,vi B,Bo ot]]) (Post:=λx w' e=>x=Bo true/\∃H L' C I κ' h K',e=(ep H,X V f' H C I 0)/\qv w0 H L' L2 (n - (i+1)) r2 C I w' κ' e' E R h S2 K' K2 (t1+1) t2) c (λq' s' hk=>Kt d Za o' p' λH L' C I w' κ' h K' hP=>hk _ w' _ ⟨Z,H,L',C,I,κ',h,K',Z,hP⟩) Z Z Z dO Z Z Z Z λx w4 e hq=>?_;obtain⟨rfl,H,L',C,I,κ',h,K',rfl,q⟩:=hq;have M4:=(c.got (D:=70) Z tT mX (x:=Bo true) Z Z).nQ [2,3,9,11,13,70] Z q.a.fit q.a.co.soft;refine ia 2 0 [] M4 Z Z mX λa5 w5 M5=>u _ _ _ _ _ _ _ _ _ a5 (q.grown M5.hJ) Za (M5.nm.oo 0 [2,3,9,10,11,13] Z Z)
 .rw[decide_eq_false (show ¬(i:Int)<n by omega)]at f;refine ia 1 0 [] f Z Z mX λa2 w2 b=>nR b Z Z<|ia 1 0 [] b Z Z mX λa3 w3 c=>?_;have d:=T.grown c.hJ;rw[show n - i=n - (i+1) by omega]at d;exact u _ _ _ _ _ _ _ _ _ a3 d Za (c.nm.oo 0 [2,3,9,10,11,13] Z Z)
theorem Vy{i:Nat}{l:List ng}{L1 L2:Nat->Option Lv}{r2 nG t1 t2:Nat}{Inb:Nat->Option eZ}{w:Wd}{κ1 e':Nat->Nat}{S1 S2:Ws}{K1 K2:aa}{a:cZ}(hS:xd w0 sb m)(hn:m<=1048576)(T:qv w0 l L1 L2 (m - i) r2 Inb nG w κ1 e' R E S1 S2 K1 K2 t1 t2)(ht:t1<=i)(M:fx (ep l) [] 0 w [] [] 112 (xB E R sa sb n m i' j' i) a w)(u:∀H b' C I w' c' h' g' y z,qv w0 H b' L2 (m - (i+1)) r2 C I w' c' e' R E h' S2 g' K2 y t2->y<=i+1->fx (ep H) [] 0 w' [] [] 112 (xB E R sa sb n m i' j' i) z w'->iv V true true (ep H) (X V f' H C I 0) (G ((base 6).at z (xE 3)) []) w') :
  iv V true true (ep l) (X V f' l Inb nG 0) (G ((base 6).at a (xE 2)) []) w:=by
 refine ia 9 0 [] M Z Z mX λa1 w1 f=>?_
 by_cases hi:i<m
 .rw[decide_eq_true (show(i:Int)<m by omega)]at f;obtain⟨g,o,D,s,F,N,W,x2,kd,A,B,ot,rfl,hg,hr,o',p'⟩:=hS i hi;refine ia 2 0 [] f Z Z mX λa2 w2 b=>nV b Z Z ?_;have p:=T.grown b.hJ;refine ia 200 0 [yI D s F N W x2 kd A B ot] b.nm Z Z ⟨⟨mX,by omega⟩,⟨Zg hg p.z,by simp,λj v hv=>?_⟩⟩ λa3 w3 c=>?_
  .rw[Zf (w:=w0) (p.o g hg).1];simpa using hr j v hv
  have d:=p.grown c.hJ;rw[show m - i=m - (i+1)+1 by omega]at d;refine wX (vs:=[Po (J (O R.bw 0 Q)),.agg #[vi D,vi s,vi F,vi N,vi W,vi x2,vi kd,vi A,vi B,Bo ot]]) (Post:=λx w' e=>x=Bo true/\∃H L' C I κ' h K',e=(ep H,X V f' H C I 0)/\qv w0 H L' L2 (m - (i+1)) r2 C I w' κ' e' R E h S2 K' K2 (t1+1) t2) c (λq' s' hk=>Kt d Za o' p' λH L' C I w' κ' h K' hP=>hk _ w' _ ⟨Z,H,L',C,I,κ',h,K',Z,hP⟩) Z Z Z dO Z Z Z Z λx w4 e hq=>?_;obtain⟨rfl,H,L',C,I,κ',h,K',rfl,q⟩:=hq;have M4:=(c.got (D:=83) Z tT mX (x:=Bo true) Z Z).nQ [2,3,9,11,13,83] Z q.a.fit q.a.co.soft;refine ia 2 0 [] M4 Z Z mX λa5 w5 M5=>u _ _ _ _ _ _ _ _ _ a5 (q.grown M5.hJ) Za (M5.nm.oo 0 [2,3,9,10,11,13] Z Z)
 .rw[decide_eq_false (show ¬(i:Int)<m by omega)]at f;refine ia 2 0 [] f Z Z mX λa2 w2 b=>nR b Z Z<|ia 1 0 [] b Z Z mX λa3 w3 c=>?_;have d:=T.grown c.hJ;rw[show m - i=m - (i+1) by omega]at d;exact u _ _ _ _ _ _ _ _ _ a3 d Za (c.nm.oo 0 [2,3,9,10,11,13] Z Z)
theorem LO{i:Nat}{l:List ng}{L1 L2:Nat->Option Lv}{r1 r2 nG t1 t2:Nat}{Inb:Nat->Option eZ}{w:Wd}{κ1 e':Nat->Nat}{S1 S2:Ws}{K1 K2:aa}{a:cZ}(A:∀l Inb nG w a,(∀g,g≠0->Inb g=Q)->w0.heap.size<=w.heap.size->(∀k,k<w0.heap.size->w.heap[k]?=w0.heap[k]?)->fx (ep l) [] 0 w [] [] 112 [(8,tT)] a w->iv V true true (ep l) (X V f' l Inb nG 0) (G ((base 6).at a [.code .ret]) []) w)(hi:n<=i)(d':m<=i)(hb:i<=1048577)(h1:t1<=i)(h2:t2<=i)(T:qv w0 l L1 L2 r1 r2 Inb nG w κ1 e' E R S1 S2 K1 K2 t1 t2)(M:fx (ep l) [] 0 w [] [] 112 (xB E R sa sb n m i' j' i++[(49,.c (.v (Bo (decide ((i:Int)<n)))))]) a w) :
  iv V true true (ep l) (X V f' l Inb nG 0) (G ((base 6).at a (xE 0)) []) w:=by
 rw[decide_eq_false (show ¬(i:Int)<n by omega)]at M;refine ia 5 0 [] M Z Z mX λa1 w1 s=>?_;rw[decide_eq_false (show ¬(i:Int)<m by omega)]at s;refine ia 200 0 [] s Z Z mX λa2 w2 u=>nR u Z Z<|ia 200 0 [] u Z Z mX λa3 w3 f=>wX (vs:=[Po (J (O E.bw 0 Q))]) (Post:=λx w' e=>x=Bo true/\∃L' C,e=(ep l,X V f' l C nG 0)/\Pw l L2 r2 C nG w' e' (R.pR (qg L') [] 0) S2 K2 t2/\(∀g,qg L' g=Q)/\(∀k,k<w0.heap.size->w'.heap[k]?=w0.heap[k]?/\¬Of R.kb L2 e' k)/\w0.heap.size<=w'.heap.size) f (λD F b=>c6J (T.grown f.hJ) Za λL' C w' N W q3 q4=>b _ w' _ ⟨Z,L',C,Z,N,W,q3,q4⟩) Z Z Z jz Z Z Z Z λx w4 e h=>?_;obtain⟨rfl,d,k',rfl,o,s4,v,z4⟩:=h;have M4:=(f.got (D:=102) Z tT mX (x:=Bo true) Z Z).nQ [10,11,102] Z o.fit o.co.soft;refine ia 200 0 [] M4 Z Z mX λa5 y c=>?_;have h5:=o.grown c.hJ;refine wX (vs:=[Po (J (O R.bw 0 Q))]) (Post:=λx w' e=>x=Bo true/\∃L' C κ',e=(ep l,X V f' l C nG 0)/\Co (R.pR (qg d) [] 0).kb l K2 L' r2 C nG w'/\(∀g,L' g=Q)/\F3 (R.pR (qg d) [] 0).kb L2 e' y L' κ' w') c (λD F b=>tV (P:=R.pR (qg d) [] 0) h5 Za λL' C w' κ' c1 c2 c3=>b _ w' _ ⟨Z,L',C,κ',Z,c1,c2,c3⟩) Z Z Z jz Z Z Z Z λx w6 e h=>?_;obtain⟨rfl,L6,a',l',rfl,p,hL,k8⟩:=h;have M6:=(c.got (D:=104) Z tT mX (x:=Bo true) Z Z).nQ [10,16,104] Z p.env.fit p.soft;refine ia 200 0 [] M6 Z Z mX λa7 w7 q=>?_;have z5:=c.size;have z:=λk (b:k<w0.heap.size)=>k8.un (kb:=(R.pR (qg d) [] 0).kb) (v k b).2 Za;have z6:w0.heap.size<=w6.heap.size:=by
  rcases mR w0.heap.size with e|e
  .omega
  .have:=D9 (w:=y) Za (z (w0.heap.size - 1) Za).2;omega
 have z7:=q.size;refine A l a' nG w7 a7 (λg hg=>(p.none g hg (hL g)).trans (s4 g)) Za (λk b=>?_) (q.nm.oo 0 [8] Z Z);rw[q.old k Za Zc,(z k b).2,c.old k Za Zc,(v k b).1]
theorem ML{l:List ng}{L:Nat->Option Lv}{r nG t:Nat}{Inb:Nat->Option eZ}{w:Wd}{κ:Nat->Nat}{P:Wp}{S:Ws}{K:aa}(h:Pw l L r Inb nG w κ P S K t)(b:t<=1048577):oL true (ep l) 10 #[Po (J (O P.bb 0 Q))] w λx w'=>x=Bo true/\nC (ep l) [] w w' :=
 PS h.pm.bk h.fit h.co.soft λc a=>by have:=h.tB c a;omega
theorem c7f(hS:xd w0 sa n)(l':xd w0 sb m)(hn:n<=1048576)(hm:m<=1048576)(y:∀l Inb nG w a,(∀g,g≠0->Inb g=Q)->w0.heap.size<=w.heap.size->(∀k,k<w0.heap.size->w.heap[k]?=w0.heap[k]?)->fx (ep l) [] 0 w [] [] 112 [(8,tT)] a w->iv V true true (ep l) (X V f' l Inb nG 0) (G ((base 6).at a [.code .ret]) []) w) :
  ∀f i l L1 L2 Inb nG κ1 e' S1 S2 K1 K2 t1 t2 a w,i+f=1048577->t1<=i->t2<=i->qv w0 l L1 L2 (n - i) (m - i) Inb nG w κ1 e' E R S1 S2 K1 K2 t1 t2->fx (ep l) [] 0 w [] [] 112 (xB E R sa sb n m i' j' i++[(49,.c (.v (Bo (decide ((i:Int)<n)))))]) a w->iv V true true (ep l) (X V f' l Inb nG 0) (G ((base 6).at a (xE 0)) []) w:=by
 intro f
 induction f with
 | zero =>
  intro i l L1 L2 Inb nG κ1 e' S1 S2 K1 K2 t1 t2 a w hi e h T M;exact LO y Za Za Za e h T M
 | succ f ih =>
  intro i l L1 L2 Inb nG κ1 e' S1 S2 K1 K2 t1 t2 a w hi e h T M
  by_cases hc:i<n\/i<m
  case neg=>exact LO y Za Za Za e h T M
  have z:∀a w',nC (ep l) [] w w'->fx (ep l) [] 0 w' [] [] 112 (xB E R sa sb n m i' j' i) a w'->iv V true true (ep l) (X V f' l Inb nG 0) (G ((base 6).at a (xE 1)) []) w':=λa w' F M=>by
   refine Ty hS hn (T.grown F) e M λl3 L3 m' n' A o' S3 K3 t3 D T3 h3 o=>Vy l' hm T3.swap h o λl4 L4 p' q' w4 u' S4 K4 t4 a4 b h4 M4=>?_;replace b:=b.swap;refine ia 200 0 [[Po (J (O E.bb 0 Q))]] M4 Z Z ⟨mX,⟨b.a.pm.rw.1.lt,by simp,b.a.pm.w4⟩⟩ λa5 w5 p=>?_;have N:=b.grown p.hJ;refine A4 p (ML N.a Za) Z Z Z gZ Z Z Z Z Z λx w6 q=>?_;obtain⟨rfl,W⟩:=q;refine E3 (p.still W) 0 tT Z Z Z Z Z λa6 s=>?_;replace s:=s.nm;have u:=N.grown W;refine ia 200 0 [[Po (J (O R.bb 0 Q))]] s Z Z ⟨mX,⟨u.b.pm.rw.1.lt,by simp,u.b.pm.w4⟩⟩ λa7 w7 v=>?_;have T7:=u.grown v.hJ;refine A4 v (ML T7.b Za) Z Z Z gZ Z Z Z Z Z λx w8 q=>?_;obtain⟨rfl,F8⟩:=q;refine E3 (v.still F8) 0 tT Z Z Z Z Z λa8 M8=>ia 26 0 [] M8.nm Z Z mX λa9 w9 M9=>?_;have k':=M9.nm.oo 0 [2,3,9,10,11,13,49] Z Z;rw[C7 (n:=i) Za]at k';exact ih (i+1) _ _ _ _ _ _ _ _ _ _ _ _ _ a9 w9 Za h3 h4 ((T7.grown F8).grown M9.hJ) k'
  by_cases N':i<n
  .rw[decide_eq_true (show(i:Int)<n by omega)]at M;refine ia 200 0 [] M Z Z mX λa1 w1 c=>nV c Z Z<|ia 1 0 [] c Z Z mX λa2 w2 d=>z a2 w2 d.hJ (d.nm.oo 0 [2,3,9,10,11,13] Z Z)
  .rw[decide_eq_false (show ¬(i:Int)<n by omega)]at M;refine ia 5 0 [] M Z Z mX λa1 w1 c=>?_;rw[decide_eq_true (show(i:Int)<m by omega)]at c;refine ia 200 0 [] c Z Z mX λa2 w2 d=>nV d Z Z<|ia 1 0 [] d Z Z mX λD A o=>z D A o.hJ (o.nm.oo 0 [2,3,9,10,11,13] Z Z)
theorem UQ(b d f g:Vu):∃a c,ay V 6 #[b,d,f,g] .normal=(base 6).at a [.code c]/\Tryz.f6.body=J c/\pK 112 [(0,b),(1,d),(2,f),(3,g)] a:=by
 obtain⟨c,h⟩:∃c,Tryz.f6.body=J c:=⟨_,Z⟩;refine⟨_,c,enter_at (c:=c) _ Tryz.func6 h,h,?_⟩;have e:Tryz.f6.ntmps=112:=by kernel_rfl
 refine⟨by simp[e],Z,λp o=>?_⟩;simp only[ae,aj,or_false]at o;rcases o with rfl|rfl|rfl|rfl<;>simp
theorem Wb(W:Wd)(T:qn W)(x y z A D z':Int)(hx:-9223372036854775808<=x/\x<9223372036854775808)(hy:-9223372036854775808<=y/\y<9223372036854775808)(C':-9223372036854775808<=A/\A<9223372036854775808)(D':-9223372036854775808<=D/\D<9223372036854775808)(sa sb:Option cx)(n m i' j':Nat)(hn:n<=1048576)(hm:m<=1048576)(hS:xd W sa n)(E':xd W sb m) :
  ∃N s' o w' t',runNT V (N+1) (solo (G (ay V 6 #[.agg #[vi x,vi y,vi z],.agg #[vi A,vi D,vi z'],.slice sa n i',.slice sb m j'] .normal) []) W) #[]=(.ended o w',t')/\runN V N (solo (G (ay V 6 #[.agg #[vi x,vi y,vi z],.agg #[vi A,vi D,vi z'],.slice sa n i',.slice sb m j'] .normal) []) W)=.next s'/\step V s'=.ended o w' /\
   jQ V (λv w'=>(v=Bo true/\W.heap.size<=w'.heap.size/\∀k,k<W.heap.size->w'.heap[k]?=W.heap[k]?)/\ta W w') s' o w' t':=by
 let⟨a,c,e,hc,hA⟩:=UQ (.agg #[vi x,vi y,vi z]) (.agg #[vi A,vi D,vi z']) (.slice sa n i') (.slice sb m j');rw[e];refine Tp (Post:=λv w'=>v=Bo true/\W.heap.size<=w'.heap.size/\∀k,k<W.heap.size->w'.heap[k]?=W.heap[k]?) (tF ?_);have u':∀k l Inb nG w a,(∀g,g≠0->Inb g=Q)->W.heap.size<=w.heap.size->(∀k,k<W.heap.size->w.heap[k]?=W.heap[k]?)->fx (ep l) [] 0 w [] [] 112 [(8,tT)] a w->iv V true true (ep l) (X V (Hw V λv w'=>v=Bo true/\W.heap.size<=w'.heap.size/\∀k,k<W.heap.size->w'.heap[k]?=W.heap[k]?) l Inb nG 0) (G ((base 6).at a (.code .ret::k)) []) w:=λk l Inb nG w a q2 q3 q4 M=>by
  refine ux<|λd=>.stop ?_;have h8:a.tmps.getD 8 Ud=Bo true:=by
   have:=M.lv.at (t:=8) Z;simp only[Sv.den,nI.den]at this;simp[this]
  have N':ResultsC V Tryz.f6 a.tmps (Bo true):=by
   rw[←h8];exact kF Zd _
  exact VO (v:=Bo true) Z (λd'=>Sb Z M.lv.defers Tryz.func6 Zd N') (λd'=>⟨Z,q3,q4⟩) q2
 have M:fx (ep []) [] 0 W [] [] 112 [(0,.g [ci x,ci y,ci z]),(1,.g [ci A,ci D,ci z']),(2,.c (.v (.slice sa n i'))),(3,.c (.v (.slice sb m j')))] a W:=by
  refine⟨hA,λe he=>(by cases he),λp hp=>?_,λi hi=>(by cases hi),λi j hi=>(by cases hi),λi _ hi=>(by cases hi),af _,λ_ _ _=>rfl,S8 W,λk _=>D7 k⟩;simp only[ae,aj,or_false]at hp;rcases hp with rfl|rfl|rfl|rfl
  case inl|inr.inl =>
   intro x hx;simp only[ae,aj,or_false]at hx;rcases hx with rfl|rfl|rfl<;>trivial
  all_goals trivial
 obtain rfl:_=c:=Ze ((show Tryz.f6.body=J _ from Z).symm.trans hc);refine pQ 200 0 [] M Z Z mX λa1 w1 b1 b2 M1=>?_;have F1:=M1.hJ;refine A4 M1 (MZ (T.same (F1.old 0 T.lt Zc)) hx hy) Z Z Z gL Z Z Z Z Z λv w2 hq=>?_;obtain⟨p1,rfl,F2,h2⟩:=hq;refine E3 (M1.still F2) 2 (.t [.c (.v (.pointer p1)),.c (.v (Bo true))]) Z Z Z Z Z λa3 M3=>?_;have nx:=λ{w:Wd}=>(λk (_:w.heap.size<=k)=>D7 k)
 refine ia 200 2 [] (M3.next (S8 _) nx (λq hq=>⟨D7 _,Z⟩) M3.lv M3.wf) Z Z mX λa4 w4 M4=>?_;have G4:=M4.hJ;have z1:=F1.size;have z2:=F2.size;have z4:=G4.size;refine A4 M4 (MZ (T.same ((G4.old 0 (by have:=T.lt;omega) Zc).trans ((F2.old 0 (by have:=T.lt;omega) Zc).trans (F1.old 0 T.lt Zc)))) C' D') Z Z Z gL Z Z Z Z Z λv w5 hq=>?_;obtain⟨p2,rfl,F5,h5⟩:=hq;have z5:=F5.size;have o5:∀k,k<W.heap.size->w5.heap[k]?=W.heap[k]?:=λk b=>by
  rw[F5.old k Za Zc,G4.old k Za Zc,F2.old k Za Zc,F1.old k b Zc]
 refine E3 (M4.still F5) 2 (.t [.c (.v (.pointer p2)),.c (.v (Bo true))]) Z Z Z Z Z λa6 M6=>ia 200 2 [] (M6.next (S8 _) nx (λq hq=>⟨D7 _,Z⟩) M6.lv M6.wf) Z Z mX λa7 w7 M7=>?_;rcases h2 with rfl|⟨E,S1,κ1,K1,rfl,hP,hfo,hb,o8⟩
 .refine vR tT M7 Z Z Z Zd Z Z Z mX (λo u f _=>Du M7 Z (.inl Z) f) λa8 M8=>ia 200 2 [] M8 Z Z mX λa9 w9 h=>nV h Z Z<|ia 200 2 [] h Z Z mX λv' w10 s=>?_;have z:=s.size;exact u' _ [] uo 1 w10 v' (λ_ _=>rfl) Za (λk b=>(s.old k Za Zc).trans (o5 k b)) (s.nQ [8] Z (S8 _) nx)
 refine vR (.c (.v (Bo false))) M7 Z Z Z Zd Z Z Z mX (λo u f _=>Du M7 Z (.inl Z) f) λa8 M8=>ia 200 2 [] M8 Z Z mX λa9 w9 h=>?_;rcases h5 with rfl|⟨R,S2,e',K2,rfl,hP',hfo',hb',o8'⟩
 .refine vR tT h Z Z Z Zd Z Z Z mX (λo u f _=>Du h Z (.inl Z) f) λv' s=>ia 200 2 [] s Z Z mX λa11 w11 m'=>nV m' Z Z<|ia 200 2 [] m' Z Z mX λA' B' F=>?_;have z:=F.size;exact u' _ [] uo 1 B' A' (λ_ _=>rfl) Za (λk b=>(F.old k Za Zc).trans (o5 k b)) (F.nQ [8] Z (S8 _) nx)
 refine vR (.c (.v (Bo false))) h Z Z Z Zd Z Z Z mX (λo u f _=>Du h Z (.inl Z) f) λv' s=>ia 200 2 [] s Z Z mX λa11 w11 m'=>nR m' Z Z<|ia 15 2 [] m' Z Z mX λA' B' F=>?_;have h4:=λr=>(hP r).grown G4;have T5:qv W [] su su (n - 0) (m - 0) uo 1 w5 κ1 e' E R S1 S2 K1 K2 0 0:=⟨((h4 _).grown F5).pR hfo Cq,(hP' _).pR hfo' Cq,λk q=>o8'.no hb' ((h4 0).of_lt q),λk b=>⟨o5 k b,o8.no hb Za,o8'.no hb' Za⟩,by omega⟩;exact c7f hS E' hn hm (u' []) 1048577 0 _ _ _ _ _ _ _ _ _ _ _ _ _ A' B' Za (af _) (af _) (T5.grown F.hJ) (F.nQ [2,3,9,10,11,13,49] Z (S8 _) nx)
end
section
open Go.ChangeShapes Go.WideShapes Go.ChangeAt Go.Deep
theorem DT:V.cellsOf 3=1:=by kernel_rfl
theorem c3t:V.cellsOf 27=3:=by kernel_rfl
theorem Pb:V.cellsOf 29=10:=by kernel_rfl
theorem b2T:V.cellsOf 23=3:=by kernel_rfl
variable{H:Type}{u:Ti×Vu->H}{w:Wd}{base:Nat}{y:Nat->Bool}{l:Bool}{f:Nat}{d:List Vu}{x:DataW H×List MemPlace}
theorem vP(h:iJ u V w base y l f 3 [q]=J x):∃n,q=Y U n/\-9223372036854775808<=n/\n<9223372036854775808:=by
 let⟨n,a,_,b⟩:=jR gI h;simp only[fG,and_true]at a;refine⟨n,a,?_⟩;simp only[Lit.wf,aB,decide_eq_true_eq]at b;have c:IntKind.i64.min=-9223372036854775808:=by decide
 have e:IntKind.i64.max=9223372036854775807:=by decide
 rw[c,e]at b;omega
theorem Ld{e g i:Field}{t:Ti}(s:V.underlying t=J (.struct #[e,g,i]))(j:V.cellsOf t=3)(o:e.type=3/\e.offset=0)(p:g.type=3/\g.offset=1)(q:i.type=3/\i.offset=2)(h:iJ u V w base y l f t d=J x):∃a b c,d=[Y U a,Y U b,Y U c]/\(-9223372036854775808<=a/\a<9223372036854775808)/\(-9223372036854775808<=b/\b<9223372036854775808)/\(-9223372036854775808<=c/\c<9223372036854775808):=by
 let⟨A,B,C,n,_,r,k,m,t2⟩:=trod_struct3 s h;rw[j]at r
 match d,r with
 | [c0,c1,c2],_ =>
  rw[o.1,o.2,DT]at k;rw[p.1,p.2,DT]at m;rw[q.1,q.2,DT]at t2;simp only[List.drop,List.take]at k m t2;obtain⟨a,rfl,v⟩:=vP k;obtain⟨b,rfl,z⟩:=vP m;obtain⟨c,rfl,j⟩:=vP t2;exact⟨a,b,c,Z,v,z,j⟩
theorem YA(h:iJ u V w base y l f 23 d=J x):∃a b c,d=[Y U a,Y U b,Y U c]/\(-9223372036854775808<=a/\a<9223372036854775808)/\(-9223372036854775808<=b/\b<9223372036854775808)/\(-9223372036854775808<=c/\c<9223372036854775808) :=
 Ld Tryz.underlying23 b2T ⟨Z,Z⟩ ⟨Z,Z⟩ ⟨Z,Z⟩ h
theorem KU{x:cx}{v:Vu}(h:j.cell? (x.add a)=J v):j.cell? (O x.block (x.off+a) Q)=J v/\(x.add a).spot=none:=by
 have c:=World.cell?_spot h;refine⟨?_,c⟩;let⟨b,o,s⟩:=x;unfold kE at h c;split at h
 .rename_i e;subst e;simp at c;subst c;simpa using h
 .simpa using h
theorem PU(h:iJ u V w base y l f 29 d=J x):∃k s c j o p a g i b,d=yI k s c j o p a g i b/\(-9223372036854775808<=c/\c<9223372036854775808)/\-9223372036854775808<=a/\a<9223372036854775808:=by
 let⟨D,n,_,_,q,E,e⟩:=DataW.trod_struct Tryz.underlying29 h;rw[Pb]at q
 match D,E,d,q with
 | [y0,y1,y2,y3,y4,y5],_,[c0,c1,c2,c3,c4,c5,c6,c7,c8,c9],_ =>
  have r:=e 0 _ Z;have t:=e 1 _ Z;have t2:=e 2 _ Z;have v:=e 3 _ Z;have z:=e 4 _ Z;have A:=e 5 _ Z;simp only[List.getElem?_cons_zero,List.getElem?_cons_succ]at r t t2 v z A;obtain⟨k,rfl,_⟩:=vP r;obtain⟨s,rfl,_⟩:=vP t;obtain⟨c,rfl,F⟩:=vP t2;let⟨S,T,W,m,_,I,K,L⟩:=trod_array3 Tryz.underlying25 DT v;obtain⟨j,rfl,_⟩:=vP I;obtain⟨o,rfl,_⟩:=vP K;obtain⟨p,rfl,_⟩:=vP L;let⟨a,g,i,N,P,_⟩:=Ld Tryz.underlying27 c3t ⟨Z,Z⟩ ⟨Z,Z⟩ ⟨Z,Z⟩ z;let⟨b,R,_⟩:=DataW.trod_bool Tryz.underlying4 A;have B:[c6,c7,c8]=[Y U a,Y U g,Y U i]:=N;have C:[c9]=[Bo b]:=R;simp only[fG,and_true]at B C;obtain⟨rfl,rfl,rfl⟩:=B;subst C;exact⟨k,s,c,j,o,p,a,g,i,b,Z,F,P⟩
theorem Xm(h:iJ u V w base (λ_=>true) l f 24 [q]=J x):∃a n c,q=.slice a n c/\xd w a n/\((x.1=.nil/\n=0)\/∃P K,x.1=.slice P K/\n<=P.length):=by
 rcases open_slice Tryz.underlying24 h with⟨z,X⟩|⟨a,a',d',m,n,D,Pl,z,_,hl,hm,R,b',S⟩
 .simp only[fG,and_true]at z;exact⟨Q,0,0,z,λi L=>by omega,bP ⟨by rw[X],Z⟩⟩
 .simp only[fG,and_true]at z;simp only[if_true]at R;subst R;refine⟨J a,a',m,z,λi L=>?_,ba ⟨_,_,by rw[b'],by simp⟩⟩;rw[Pb]at S;have T:∀i,i<m->∃v,(∀j,j<10->w.cell? ((a.add (i*10)).add j)=v[j]?)/\∃k s c A B C t E F b,v=yI k s c A B C t E F b/\(-9223372036854775808<=c/\c<9223372036854775808)/\-9223372036854775808<=t/\t<9223372036854775808:=λi L=>by
   let⟨v,h1,h2⟩:=S i L;let⟨_,_,I⟩:=World.cells?_some h1;exact⟨v,I,PU h2⟩
  have K:a.spot=none:=by
   obtain⟨v,I,k,s,c,A,B,C,t,E,F,b,rfl,_⟩:=T 0 Za;have:=I 0 Za;have N:=(KU (v:=Y U k) this).2;let⟨p,e',r⟩:=a;simpa[kE] using N
  let⟨g,o,r⟩:=a;obtain rfl:r=none:=K;obtain⟨v,I,k,s,c,A,B,C,t,E,F,b,rfl,c'⟩:=T i Za;have W:w.rangeAt g (o+i*10) (yI k s c A B C t E F b):=λj q G=>by
   have hj:j<10:=by
    have:=(bD.1 G).1;exact this
   have e:=I j hj;rw[G]at e;have:=(KU e).1;have M:(((O g o Q):cx).add (i*10)).block=g/\(((O g o Q):cx).add (i*10)).off=o+i*10:=by
    unfold kE;split
    .rename_i N;simp at N ⊢;omega
    .simp
   rw[M.1,M.2]at this;exact this
  refine⟨g,o,k,s,c,A,B,C,t,E,F,b,Z,aK w (O g (o+i*10+0) Q) (W 0 _ Z),W,c'⟩
end
end
end Go.Proofs.YtcgabodkegcpgaaGreatDoor