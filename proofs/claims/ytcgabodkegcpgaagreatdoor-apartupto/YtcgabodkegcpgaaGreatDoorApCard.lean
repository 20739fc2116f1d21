/- burrowlaw.Apart answers true for all settings of two worlds and every two scripts that are together of bulk at most 1048576 (the statement's own bound), and leaves the scripts as they were; the package variable burrow/kernel.calls starts as the program's text lays it (the card ties it). -/
import Derived.Test.YtcgabodkegcpgaaGreatDoorAaa
import Derived.Test.YtcgabodkegcpgaaGreatDoorCards
import Derived.Test.YtcgabodkegcpgaaGreatDoorTie
import Derived.Test.YtcgabodkegcpgaaGreatDoorKer
import Derived.Test.YtcgabodkegcpgaaGreatDoorBnc
import Derived.WalkKit
import Derived.ProofKit
import Derived.OpenShut
import Derived.ChangeOld
import Derived.Below
import Derived.Deep.Grids
import Derived.Deep.DeepHandedRow
set_option linter.unusedVariables false
set_option linter.unusedSimpArgs false
set_option maxHeartbeats 20000000
set_option maxRecDepth 100000
open Option renaming some->J,none->Q
open Go.Proofs.Tryz renaming prog->V,checked->kW
open Go renaming World->Wd,Value->Vu,TypeId->Ti,FuncId->bC,Value->dM,trodAll_cons_mk->ir
open Go.Value renaming int->Y,slice->Sc
open Go.IntKind renaming i64->U
open Go.Frame renaming enter->ay
open List renaming range->aO,cons_append->cj
open Go.Conc renaming base->aQ,Good->jQ
open Go.RowKit renaming Below->bE
open Go.Proofs.YtcgabodkegcpgaaGreatDoor.Rows renaming uptoBulk->dY
open Go.Proofs.YtcgabodkegcpgaaGreatDoor.Rows.OpenSpec renaming upto->gG
open Go.RowKit.Below renaming trod->jK
open Go.World renaming holding->jT
open Array renaming mem_of_getElem?->lC
namespace Go.Proofs.YtcgabodkegcpgaaGreatDoor.apart
open Go.ChangeShapes Go.WideShapes Go.ChangeAt Go.RowKit Go.Deep Go.Conc
theorem own:ownKnob V.godebug=none:=by kernel_rfl
theorem Ds:laidOutB V=true:=by kernel_rfl
theorem Tn(H:Type)(g:Ti×Vu->H)(W:Wd)(base:Nat)(b:Array Vu)(C gs:List (DataW H))(j':List MemPlace)(k:∀(j:Nat) t v,Tryz.f6.params[j]?=J t->b[j]?=J v->Value.okWide V W .any base t v)(R:DataW.Whole g V Tryz.f6.params.toList Rows.apartSpec.vars false W b.toList C gs j')(hk:Rows.uptoSmall H (C++gs)=true)(hL:laidMetH V Rows.apartRow.laid W) :
  ∃M l o i u,runNT V (M+1) (solo (G (ay V 6 b .normal) []) W) #[]=(.ended o i,u)/\runN V M (solo (G (ay V 6 b .normal) []) W)=.next l /\
   step V l=.ended o i/\jQ V (λv W'=>Rows.apartSpec.post g V Tryz.f6 false true false false W b v W') l o i u:=by
 have k':=R;obtain⟨p,q,S,hV,rfl,A',B'⟩:=R;have T:DataW.TrodAll g V W 0 (λ_=>true) true Tryz.f6.params.toList b.toList C p:=S;rw[Tryz.params6]at T k;obtain⟨X,C',d0,E',p0,q0,H',rfl,rfl,h0,r0⟩:=trodAll_cons T;obtain⟨v1,K',d1,M',p1,q1,rfl,rfl,rfl,h1,D⟩:=trodAll_cons r0;obtain⟨v2,Q',d2,R',p2,q2,rfl,rfl,rfl,h2,E⟩:=trodAll_cons D;obtain⟨v3,U',d3,V',p3,q3,rfl,rfl,rfl,h3,F⟩:=trodAll_cons E;obtain⟨rfl,rfl,rfl⟩:=trodAll_nil F;obtain rfl:b=#[X,v1,v2,v3]:=by cases b;simp_all
 obtain⟨rfl,rfl⟩:=trodVars_none hV;obtain⟨cs0,rfl,_⟩:=okWide_struct Tryz.underlying23 (k 0 23 X Z Z);obtain⟨cs1,rfl,_⟩:=okWide_struct Tryz.underlying23 (k 1 23 v1 Z Z);obtain⟨a2,l',m',rfl⟩:=okWide_slice Tryz.underlying24 (k 2 24 v2 Z Z);obtain⟨a3,n',o',rfl⟩:=okWide_slice Tryz.underlying24 (k 3 24 v3 Z Z);obtain⟨p',q'⟩:dY d2<=1048576/\dY d3<=1048576:=by
  have:=of_decide_eq_true hk;simp only[cj,Rows.uptoBulkAll]at this;omega
 have w:∀ {v d t p},DataW.Trod g V W 0 (λ_=>true) true t v d p->∀x∈p,x.block<W.heap.size:=λh=>by let⟨m,f⟩:=h;exact DataW.trod_lt m _ _ _ f
 have k0:=h0;have k1:=h1;have k2:=h2;have k3:=h3;have g':∀ {r d p},DataW.Trod g V W 0 (λ_=>true) true 23 (.agg r) d p->∃x y z,r=#[Y U x,Y U y,Y U z]/\(-9223372036854775808<=x/\x<9223372036854775808)/\(-9223372036854775808<=y/\y<9223372036854775808):=λ{r d p} h=>by
  let⟨r',I⟩:=h;let⟨x,y,z,hc,K,L,hz⟩:=YA I;refine⟨x,y,z,?_,K,L⟩;have hc':r.toList=[Y U x,Y U y,Y U z]:=hc;cases r
  simp_all
 obtain⟨x,y,z,rfl,K,L⟩:=g' h0;obtain⟨x',y',z',rfl,s',u'⟩:=g' h1;have h':∀ {N A i' d p},DataW.Trod g V W 0 (λ_=>true) true 24 (.slice N A i') d p->dY d<=1048576->xd W N A/\A<=1048576:=λ{N A i' d p} h B=>by
  let⟨r',I⟩:=h;let⟨a,n,c,e,P,f⟩:=Xm I;injection e with e1 e2 e3
  subst e1;subst e2;refine⟨P,?_⟩;rcases f with⟨_,f⟩|⟨el,sp,f,hl⟩
  .omega
  .have B:=b7g (H:=H) el sp;have f:d=.slice el sp:=f;rw[←f]at B;omega
 let⟨W2,m2⟩:=h' h2 p';let⟨W3,m3⟩:=h' h3 q';clear S;let⟨M,l,o,i,u,D,E,F,r4⟩:=Wb W (Vm Z hL) x y z x' y' z' K L s' u' a2 a3 l' n' m' o' m2 m3 W2 W3;refine⟨M,l,o,i,u,D,E,F,r4.mono λv hF=>?_⟩;obtain⟨⟨rfl,P,B⟩,c1,c2,c3⟩:=hF;have s:bE W.heap.size W i:=⟨c1,c3,c2,P,B⟩;exact⟨_,_,_,[],_,[],k',trodAll_mk1 (shut_bool Tryz.underlying4 _),(ir (jK Ds Zd (of_decide_eq_true Zd) k0 s (w k0)) (ir (jK Ds Zd (of_decide_eq_true Zd) k1 s (w k1)) (ir (jK Ds Zd (of_decide_eq_true Zd) k2 s (w k2)) (ir (jK Ds Zd (of_decide_eq_true Zd) k3 s (w k3)) trodAll_mk0)))),Z,s.frame _,λh=>by cases h⟩
def Qc:Array dM:=((aO 20).flatMap λi=>[Value.bool (there i),Y U ((i7 i).getD 0 0),Y U ((i7 i).getD 1 0),Y U ((i7 i).getD 2 0)]).toArray
def Ih(h:Wd):Wd :=
 { h with heap:=h.heap.modify 0 fun
   | .cells _ t frozen=>.cells Qc t frozen
   | o=>o }
theorem c4M(a:Go.Os):laidMet V Rows.apartRow.laid ((Ih (jT V a ⟨#[],#[],[]⟩)).forCall (λ_ _=>0) ⟨#[],#[.agg #[Y U 0,Y U 0,Y U 0],.agg #[Y U 0,Y U 0,Y U 0],Sc Q 0 0,Sc Q 0 0],[]⟩).memory :=
 laidMet_of_run' 8 Zd Zd
theorem reads(a:Go.Os){H:Type}(b:Ti×Vu->H):∃places,DataW.whole b V ((Ih (jT V a ⟨#[],#[],[]⟩)).forCall (λ_ _=>0) ⟨#[],#[.agg #[Y U 0,Y U 0,Y U 0],.agg #[Y U 0,Y U 0,Y U 0],Sc Q 0 0,Sc Q 0 0],[]⟩).memory Tryz.f6.params.toList Rows.apartSpec.vars false #[Value.agg #[Y U 0,Y U 0,Y U 0],.agg #[Y U 0,Y U 0,Y U 0],Sc Q 0 0,Sc Q 0 0].toList 8=J ([.agg [.lit (.int .i64 0),.lit (.int .i64 0),.lit (.int .i64 0)],.agg [.lit (.int .i64 0),.lit (.int .i64 0),.lit (.int .i64 0)],.nil,.nil],[],places) :=
 ⟨[],by kernel_rfl⟩
theorem d0b(a:Go.Os)(d:a.Started)(H:Type)(b:Ti×Vu->H)(F:Stop.Interp) :
  ReturnsInLeavingWide {} kW a 6 .any ((gG Rows.apartSpec).preRow b V Tryz.f6 Rows.apartUptoRow.domain false Rows.apartUptoRow.laid) (((gG Rows.apartSpec).at F).post b V Tryz.f6 false true false false):=by
 let⟨places,e⟩:=reads a b;refine a8b (C:=kW) (s:=gG Rows.apartSpec) own d Tryz.func6
  (witness_row_at (enc:=b) (C:=kW) false (Ih (jT V a ⟨#[],#[],[]⟩)) #[.agg #[Y U 0,Y U 0,Y U 0],.agg #[Y U 0,Y U 0,Y U 0],Sc Q 0 0,Sc Q 0 0] Z Zd Zd Zd
   (OpenSpec.preRow_of_cond 8 e Zd (λk c=>by cases c;kernel_rfl) Zd (c4M a))) ?_
 intro W aQ f g gs h i j c l;exact Tn H b W aQ f g gs h i j (c _ Z) l
theorem Xo:Rows.ApartUptoSaid :=
 Yq 6 Tryz.f6 ⟨Z,Z,Z⟩ Z Z ⟨Z,Z,Z,Z,Z,Z,Z⟩ Z Z Z Z Z Zd Tryz.func6 Zd
  (of_decide_eq_true Zd) (by unfold Func.isWrapper;first|(rw[mZ (by decide +kernel)];kernel_rfl)|(rw[mY (by decide +kernel)];exact⟨Z,Z⟩))
  (λa b H c _ F=>by rw[OpenClaim.pre_eq_preRow];exact d0b a b H c F)
theorem plain(f:bC)(a:Func)(d:Tryz.pinned.checked.prog.funcNamed "burrow/burrowlaw.Apart" = J f)(e:Tryz.pinned.checked.prog.funcs[f]?=J a) :
  Rows.apartUptoCard.stood.looks=Tryz.pinned.checked.prog.looks []/\∀(j:Nat) t,a.params[j]?=J t->Tryz.pinned.checked.prog.wantsStandIn t=false:=by
 obtain rfl:f=6:=Ze ((show V.funcNamed "burrow/burrowlaw.Apart" = J 6 by kernel_rfl).symm.trans d) |>.symm;obtain rfl:a=Tryz.f6:=(Ze (Tryz.func6.symm.trans e)).symm;refine⟨by kernel_rfl,λj t b=>?_⟩;rw[Tryz.params6]at b;have c:=lC b;simp at c;rcases c with rfl|rfl|rfl|rfl
 iterate 2 exact(show V.wantsStandIn 23=false by kernel_rfl)
 all_goals exact(show V.wantsStandIn 24=false by kernel_rfl)
theorem card:Rows.ApartUptoCardSaid :=
 Qo .later Xo Zd apartUpto_row_tie Z ⟨Z,Z⟩ Zd Z plain Zd
#print axioms card
end Go.Proofs.YtcgabodkegcpgaaGreatDoor.apart
