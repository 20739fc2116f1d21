/- burrowlaw.Libs answers true for all settings and every script that are together of bulk at most 1048576 (the statement's own bound), and leaves the script as it was; the package variable burrow/kernel.calls starts as the program's text lays it (the card ties it). -/
import Derived.Test.YtcgabodkegcpgaaGreatDoorAaa
import Derived.Test.YtcgabodkegcpgaaGreatDoorCards
import Derived.Test.YtcgabodkegcpgaaGreatDoorTie
import Derived.Test.YtcgabodkegcpgaaGreatDoorKer
import Derived.Test.YtcgabodkegcpgaaGreatDoorBna
import Derived.WalkKit
import Derived.ProofKit
import Derived.OpenShut
import Derived.ChangeOld
import Derived.Below
import Derived.Deep.Grids
import Derived.Deep.DeepHandedRow
set_option linter.unusedVariables false
set_option linter.unusedSimpArgs false
set_option maxHeartbeats 20000000
set_option maxRecDepth 100000
open Option renaming some->J,none->Q
open Go.Proofs.Tryz renaming prog->V,checked->lJ,f5->mC
open Go renaming World->Wd,Value->Vu,TypeId->Ti,FuncId->bF,Value->dQ,Func->mR
open Go.Value renaming int->Y,slice->Sc
open Go.IntKind renaming i64->U
open Go.Frame renaming enter->ay
open List renaming range->aM
open Go.Conc renaming base->aB,Good->kx
open Go.RowKit renaming Below->bG
open Go.Proofs.YtcgabodkegcpgaaGreatDoor.Rows.OpenSpec renaming upto->gP
open Go.World renaming holding->kC
open Go.Proofs.YtcgabodkegcpgaaGreatDoor.Rows renaming libsSpec->kP
open Array renaming mem_of_getElem?->lW
namespace Go.Proofs.YtcgabodkegcpgaaGreatDoor.libs
open Go.ChangeShapes Go.WideShapes Go.ChangeAt Go.RowKit Go.Deep Go.Conc
theorem own:ownKnob V.godebug=none:=by kernel_rfl
theorem KM:laidOutB V=true:=by kernel_rfl
theorem RZ(H:Type)(k:Ti×Vu->H)(W:Wd)(base:Nat)(d:Array Vu)(l gs:List (DataW H))(e':List MemPlace)(r:∀(j:Nat) t v,Tryz.f5.params[j]?=J t->d[j]?=J v->Value.okWide V W .any base t v)(I:DataW.Whole k V Tryz.f5.params.toList Rows.libsSpec.vars false W d.toList l gs e')(hk:Rows.uptoSmall H (l++gs)=true)(hL:laidMetH V Rows.libsRow.laid W) :
  ∃M g o f i,runNT V (M+1) (solo (G (ay V 5 d .normal) []) W) #[]=(.ended o f,i)/\runN V M (solo (G (ay V 5 d .normal) []) W)=.next g /\
   step V g=.ended o f/\kx V (λv W'=>Rows.libsSpec.post k V mC false true false false W d v W') g o f i:=by
 have h':=I;obtain⟨p,q,K,hV,rfl,m',n'⟩:=I;have L:DataW.TrodAll k V W 0 (λ_=>true) true Tryz.f5.params.toList d.toList l p:=K;rw[Tryz.params5]at L r;obtain⟨N,o',d0,p',p0,q0,q',rfl,rfl,P,r0⟩:=trodAll_cons L;obtain⟨R,r',d1,s',p1,q1,rfl,rfl,rfl,S,s⟩:=trodAll_cons r0;obtain⟨rfl,rfl,rfl⟩:=trodAll_nil s;obtain rfl:d=#[N,R]:=by cases d;simp_all
 obtain⟨rfl,rfl⟩:=trodVars_none hV;obtain⟨u,rfl,_⟩:=okWide_struct Tryz.underlying23 (r 0 23 N Z Z);obtain⟨T,w,i',rfl⟩:=okWide_slice Tryz.underlying24 (r 1 24 R Z Z);let⟨u',v'⟩:=YJ hk;have X:=P;have j':∀x∈p0,x.block<W.heap.size:=by let⟨m,b⟩:=X;exact DataW.trod_lt m _ _ _ b
 have k1:=S;have k':∀x∈p1,x.block<W.heap.size:=by let⟨m,b⟩:=k1;exact DataW.trod_lt m _ _ _ b
 obtain⟨x,y,z,e0,A,B,hz⟩:∃x y z,u=#[Y U x,Y U y,Y U z]/\(-9223372036854775808<=x/\x<9223372036854775808)/\(-9223372036854775808<=y/\y<9223372036854775808)/\(-9223372036854775808<=z/\z<9223372036854775808):=by
  let⟨l',C⟩:=P;let⟨x,y,z,hc,A,B,hz⟩:=b5K C;refine⟨x,y,z,?_,A,B,hz⟩;have x':u.toList=[Y U x,Y U y,Y U z]:=hc;cases u
  simp_all
 subst e0;obtain⟨W1,m1⟩:yn W T w/\w<=1048576:=by
  let⟨l',C⟩:=S;let⟨a,n,c,e,D,b⟩:=b7T C;injection e with e1 e2 e3
  subst e1;subst e2;refine⟨D,?_⟩;rcases b with⟨_,b⟩|⟨el,sp,b,hl⟩
  .omega
  .have E:=b6W (H:=H) el sp;have b:d1=.slice el sp:=b;rw[←b]at E;omega
 clear K;let⟨M,g,o,f,i,s,r2,r3,r4⟩:=Qk W (Wh Z hL) x y z A B T w i' m1 W1;refine⟨M,g,o,f,i,s,r2,r3,r4.mono λv hF=>?_⟩;obtain⟨⟨rfl,D,E⟩,c1,c2,c3⟩:=hF;have F:bG W.heap.size W f:=⟨c1,c3,c2,D,E⟩;exact⟨_,_,_,[],_,[],h',trodAll_mk1 (shut_bool Tryz.underlying4 _),(trodAll_cons_mk (Below.trod KM Zd (of_decide_eq_true Zd) X F j') (trodAll_cons_mk (Below.trod KM Zd (of_decide_eq_true Zd) k1 F k') trodAll_mk0)),Z,F.frame _,λh=>by cases h⟩
def c6t:Array dQ:=((aM 20).flatMap λi=>[Value.bool (there i),Y U ((i7 i).getD 0 0),Y U ((i7 i).getD 1 0),Y U ((i7 i).getD 2 0)]).toArray
def FX(h:Wd):Wd :=
 { h with heap:=h.heap.modify 0 fun
   | .cells _ t frozen=>.cells c6t t frozen
   | o=>o }
theorem c4y(a:Go.Os):laidMet V Rows.libsRow.laid ((FX (kC V a ⟨#[],#[],[]⟩)).forCall (λ_ _=>0) ⟨#[],#[.agg #[Y U 0,Y U 0,Y U 0],Sc Q 0 0],[]⟩).memory :=
 laidMet_of_run' 8 Zd Zd
theorem reads(a:Go.Os){H:Type}(b:Ti×Vu->H):∃places,DataW.whole b V ((FX (kC V a ⟨#[],#[],[]⟩)).forCall (λ_ _=>0) ⟨#[],#[.agg #[Y U 0,Y U 0,Y U 0],Sc Q 0 0],[]⟩).memory Tryz.f5.params.toList Rows.libsSpec.vars false #[Value.agg #[Y U 0,Y U 0,Y U 0],Sc Q 0 0].toList 8=J ([.agg [.lit (.int .i64 0),.lit (.int .i64 0),.lit (.int .i64 0)],.nil],[],places) :=
 ⟨[],by kernel_rfl⟩
theorem c9N(a:Go.Os)(d:a.Started)(H:Type)(b:Ti×Vu->H)(F:Stop.Interp) :
  ReturnsInLeavingWide {} lJ a 5 .any ((gP kP).preRow b V mC Rows.libsUptoRow.domain false Rows.libsUptoRow.laid) (((gP kP).at F).post b V mC false true false false):=by
 let⟨places,e⟩:=reads a b;refine Uk (C:=lJ) (s:=gP kP) own d Tryz.func5
  (witness_row_at (enc:=b) (C:=lJ) false (FX (kC V a ⟨#[],#[],[]⟩)) #[.agg #[Y U 0,Y U 0,Y U 0],Sc Q 0 0] Z Zd Zd Zd
   (OpenSpec.preRow_of_cond 8 e Zd (λk c=>by cases c;kernel_rfl) Zd (c4y a))) ?_
 intro W aB f g gs h i j c l;exact RZ H b W aB f g gs h i j (c _ Z) l
theorem Ye:Rows.LibsUptoSaid :=
 YZ 5 mC ⟨Z,Z,Z⟩ Z Z ⟨Z,Z,Z,Z,Z,Z,Z⟩ Z Z Z Z Z Zd Tryz.func5 Zd
  (of_decide_eq_true Zd) (by unfold Func.isWrapper;first|(rw[nT (by decide +kernel)];kernel_rfl)|(rw[nR (by decide +kernel)];exact⟨Z,Z⟩))
  (λa b H c _ F=>by rw[OpenClaim.pre_eq_preRow];exact c9N a b H c F)
theorem plain(f:bF)(a:mR)(d:Tryz.pinned.checked.prog.funcNamed "burrow/burrowlaw.Libs" = J f)(e:Tryz.pinned.checked.prog.funcs[f]?=J a) :
  Rows.libsUptoCard.stood.looks=Tryz.pinned.checked.prog.looks []/\∀(j:Nat) t,a.params[j]?=J t->Tryz.pinned.checked.prog.wantsStandIn t=false:=by
 obtain rfl:f=5:=Ze ((show V.funcNamed "burrow/burrowlaw.Libs" = J 5 by kernel_rfl).symm.trans d) |>.symm;obtain rfl:a=mC:=(Ze (Tryz.func5.symm.trans e)).symm;refine⟨by kernel_rfl,λj t b=>?_⟩;rw[Tryz.params5]at b;have c:=lW b;simp at c;rcases c with rfl|rfl
 .exact(show V.wantsStandIn 23=false by kernel_rfl)
 .exact(show V.wantsStandIn 24=false by kernel_rfl)
theorem card:Rows.LibsUptoCardSaid :=
 c2D .later Ye Zd libsUpto_row_tie Z ⟨Z,Z⟩ Zd Z plain Zd
#print axioms card
end Go.Proofs.YtcgabodkegcpgaaGreatDoor.libs
