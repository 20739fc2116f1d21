/- All that holds of every kernel that calls come to: the counts, who owns what, what reads as nothing, the ends of pipes. -/
import Derived.Test.YtcgabodkegcpgaaGreatDoorAaa
import Derived.Test.YtcgabodkegcpgaaGreatDoorKer
import Derived.Deep.RegionHeld3
import Derived.Deep.DrawnRows
import Derived.Deep.OwnRows
import Derived.Deep.MidRow
import Derived.Handy
import Derived.Conc.TokenWords
set_option linter.unusedVariables false
set_option linter.unusedSimpArgs false
set_option maxHeartbeats 20000000
set_option maxRecDepth 100000
open Option renaming some->J,none->Q,none->G',map_some->aD,isSome_iff_exists->cH,getD_some->cU
open Go.Proofs.Tryz renaming prog->V,ntmps36->bK,func36->bU,func117->cQ,ntmps75->fA,ntmps74->fB,func75->fP,func74->fQ,f117->gy,func128->iV,func106->jm,f128->jn,f106->jo,underlying82->jD,func12->jW,sizeOf79->kt,sizeOf76->kv,ntmps104->kx,ntmps69->kK,ntmps63->kL,ntmps26->kS,func104->kV,ntmps12->lE,func69->lH,func63->lI,func26->lR
open Go renaming World->Wd,Value->Vu,undef->Ud,Frame->Fm',Goroutine->Gr,TypeId->Ti,execOp->Ex,Program->Pg,Calls->aF,Oper->aL,Operand->aS,Item->bh,FuncId->bC,stepG->bF,Addr->cx,heap_alloc_new->cC,Act->cZ,results->de,Event->dn,Value->dM,wpList_store_mid->dV,yielded->fh,ResultVar->fj,wpList_load_mid->fL,Sem->gi,run_underlying->gQ,BinOp->ie,IntKind->iB,wpList->iR,Code->jj,events_store->jl,cell_of_row->jC,run_storeCells_cells->jL,commResult->km
open Go.Value renaming int->Y,pointer->Po,slice->Sc,bool->Bo,slice->di,int->dL,cells->fY
open Go.IntKind renaming i64->U
open Go.Addr renaming mk->O,add_mid->eG,add->kE
open List renaming mem_cons->ae,mem_cons_of_mem->ah,not_mem_nil->aj,mem_cons_self->ao,range->aO,all_eq_true->aT,size_toArray->aY,length_map->br,getElem?_eq_some_iff->bD,getElem?_map->bO,mem_append->bZ,getD_eq_getElem?_getD->cG,length_cons->cI,mem_of_getElem?->cN,getElem?_range->cW,map_cons->cX,mem_append_right->da,mem_map->dA,mem_map_of_mem->dB,mem_toArray->dU,nil_append->eP,mem_append_left->fK,mapM_cons->fM,mapM_toArray->fT,push_toArray->gp,range'->gR,forall_mem_cons->ib,map_congr_left->iI,mapM_nil->iQ,zipIdx_cons->jG,length_nil->kC,map_id'->kZ,map_map->lW
open Nat renaming le_refl->af,zero_add->aE,beq->aG,add_assoc->aP,zero_le->aW,blt->cE,ne_of_lt->dt,le_of_eq->fF,ble->fS,zero_mul->jY,add_zero->jZ,sub_zero->kY,lt_of_succ_lt_succ->mI
open Go.RowKit renaming Hid->ar,Below->bE,intOf->bT
open Int renaming toNat_natCast->au,tmod_eq_emod_of_nonneg->aZ
open Prod.mk renaming inj->ax,injEq->cR
open Go.Frame renaming enter->ay,finish_at->bI
open Ne renaming symm->aA
open Bool renaming and_eq_true->aB,false_eq_true->aI,or_eq_true->cY
open Go.World renaming cell?->aC,block_lt_of_cell?->aK,frozen?->bR,cell?_setCell_other->cD,setCell->cO,frozen?_setCells->dE,frozen?_of_block->dH,cell?_setCells_out->dS,rangeAt_setCells_same->fy,cell?_setCells_in->kG
open Go.RowKit.Below renaming heap_alloc->aJ,refl->bz,heap_setCell->dK
open Go.Sem renaming runT->aM,run_bind->bH,run_pure->eh,runT_fst->jf,run_map->jE
open Go.Result renaming andThen_ok->aN
open Go.Conc renaming base->aQ,served->bG,mem_listed->cA,goes_oper_k->eV,Seat->eZ,stepG_cond->fN,closeEvents->gU,goes_go->iK,ds_none->iL,resultsC_tmp->kF,resultsC_tmp2->mb,listed->me,served_fr->my
open Go.CallKind renaming normal->aV
open Or renaming inr->ba,inl->bP
open Option.some renaming injEq->bm
open Go.Region renaming wanted->bM,binds->cM
open Go.Conc.Goes renaming step->cK
open Array renaming all_eq_true_iff_forall_mem->cP,getElem?_setIfInBounds_ne->cV,toList_map->gE,getElem?_extract->kI,toArray_toList->ma
open And renaming intro->db
open Go.Act renaming eval->dj,put->dG
open Go.Op renaming equalIn->dm,eqFields->mG
open Go.Builtin renaming copy_->dp,firstCells->kH,lenOf->mO
open Go.Instr renaming fill->dJ,indexAt->fV,makeSlice->ic,sureAddr->il,build->im,sliceAt->iC,sliceBounds->jg,sliceBound->jv,slice->lX
open Inhabited renaming default->dR
open List.cons renaming injEq->fG
open Go.IntWalk renaming i64_in->gP
open Std.Legacy.Range renaming forIn_eq_forIn_range'->iG,size->ky
open Classical renaming axiomOfChoice->jk
namespace Go.Proofs.YtcgabodkegcpgaaGreatDoor
noncomputable section
section
variable{a b c d e:Nat}{f g h:Wd}{i j:Array Vu}{k l:Vu}{m n o p q:Int}{r s:aL}{t u v w:Bool}{x y:Ti}{z A:aS}{B C:List Nat}{D:Gr->Wd->Prop}{E:List Fm'}{F:Func}{H:List Vu}{I:List ng}{K:Obj}{L N:Type}{P:Array aL}{R:cZ}{S:Fm'}{T:Nat->Nat}{W:List fj}
structure rC (K:aa):Prop extends Inv K where
 own:Own K
 xG:iP K
 ended:nE K
theorem yQ{K:aa}(I:rC K)(d e a b c:Int):rC (i5 K d e a b c).K :=
 ⟨c4y I.toInv d e a b c,Rj I.own I.mL d e a b c,c1p I.xG I.own I.mL d e a b c,b7u I.ended I.mL d e a b c⟩
theorem NJ(b a c:Nat)(hF:2<=b)(d:1<=a)(e:a<=6):rC (K6 b a c):=⟨Th b a c hF e,T4 b a c hF d,Rv b a c,Zy b a c⟩
end
section
open Go.RowKit
variable{a b c d e:Nat}{f g h:Wd}{i j:Array Vu}{k l:Vu}{m n o p q:Int}{r s:aL}{t u v w:Bool}{x y:Ti}{z A:aS}{B C:List Nat}{D:Gr->Wd->Prop}{E:List Fm'}{F:Func}{H:List Vu}{I:List ng}{K:Obj}{L N:Type}{P:Array aL}{R:cZ}{S:Fm'}{T:Nat->Nat}{W:List fj}
variable{l F A D:Nat}{K:aa}{w:Wd}
theorem js.d0(R:js w l F A D K)(b:a<K.nD):w.cell? (O D (a*5) Q)=J (Y U (K.D a 0)):=R.d a 0 b Za
theorem js.d1(R:js w l F A D K)(b:a<K.nD):w.cell? (O D (a*5+1) Q)=J (Y U (K.D a 1)):=R.d a 1 b Za
theorem js.d2(R:js w l F A D K)(b:a<K.nD):w.cell? (O D (a*5+2) Q)=J (Y U (K.D a 2)):=R.d a 2 b Za
theorem js.d3(R:js w l F A D K)(b:a<K.nD):w.cell? (O D (a*5+3) Q)=J (Y U (K.D a 3)):=R.d a 3 b Za
theorem js.d4(R:js w l F A D K)(b:a<K.nD):w.cell? (O D (a*5+4) Q)=J (Y U (K.D a 4)):=R.d a 4 b Za
theorem js.hZ(R:js w l F A D K)(b:a<K.nD)(f:Int) :
  js (((((w.setCell (O D (a*5) Q) (Y U f)).setCell (O D (a*5+1) Q) (Y U 0)).setCell (O D (a*5+2) Q) (Y U 0)).setCell (O D (a*5+3) Q) (Y U 0)).setCell (O D (a*5+4) Q) (Y U 0)) l F A D (K.hZ a f):=by
 have g:=R.np (c:=0) (o:=a*5) b Za Z f;have c:a<(K.np a 0 f).nD:=b;have h:=g.np (c:=1) (o:=a*5+1) c Za Z 0;have d:a<((K.np a 0 f).np a 1 0).nD:=c;have i:=h.np (c:=2) (o:=a*5+2) d Za Z 0;have e:a<(((K.np a 0 f).np a 1 0).np a 2 0).nD:=d;have j:=i.np (c:=3) (o:=a*5+3) e Za Z 0;have k:a<((((K.np a 0 f).np a 1 0).np a 2 0).np a 3 0).nD:=e;exact j.np (c:=4) (o:=a*5+4) k Za Z 0
theorem Pj(R:js w l F A D K)(b:Bool)(m:Int)(d:a<K.nD)(g:-1<=m/\m<=1)(h:0<=K.D a 3/\K.D a 3<=24)(i:0<=K.D a 4/\K.D a 4<=24) :
  aF V 110 #[Po (J (O l 0 Q)),.agg #[Y U a,Bo b],Y U m] w λe f=>e=.returned (.tuple #[])/\js f l F A D (K.count a b m)/\dT F A D w f:=by
 have c:ar (js w l F A D K):=R;have j:=R.hD;have k:=λo=>(c.out.alloc o).k2;have n:=λo=>(c.out.alloc o).d3 d;have p:=λo=>(c.out.alloc o).d4 d;have z:=λo=>(c.out.alloc o).zd;clear R;let⟨q,r⟩:=g;let⟨s,t⟩:=h;let⟨u,v⟩:=i;cases b
 .go_enter Tryz.func110,Tryz.ntmps110
  go_wp2
  go_region
  all_goals
   go_wp2
   go_end0
   exact⟨Z,(c.out.alloc _).drew.np d Za Z _,((dT.refl w).alloc _).drew.np _ _⟩
 .go_enter Tryz.func110,Tryz.ntmps110
  go_wp2
  go_region
  all_goals
   go_wp2
   go_end0
   exact⟨Z,(c.out.alloc _).drew.np d Za Z _,((dT.refl w).alloc _).drew.np _ _⟩
theorem CZ(R:js w l F A D K)(f:Bool)(g:a<K.nS)(h:b<4)(j:d<K.nD)(k:0<=K.D d 3/\K.D d 3<=24)(m:0<=K.D d 4/\K.D d 4<=24) :
  aF V 102 #[Po (J (O l 0 Q)),Y U a,Y U b,.agg #[Y U d,Bo f]] w λe i=>e=.returned (.tuple #[])/\js i l F A D (K.fc a b d f)/\dT F A D w i:=by
 have c:ar (js w l F A D K):=R;have r:=R.hS;have s:=λo=>(c.out.alloc o).k1;have t:=λo=>(c.out.alloc o).ff g h;have u:=λo=>(c.out.alloc o).fe g h;have z:=λo=>(c.out.alloc o).zs;have n:A≠w.heap.size:=dt R.ls;have v:w.heap.size≠A:=λe=>n e.symm;have p:=k;have q:=m;clear R
 go_enter Tryz.func102,Tryz.ntmps102
 go_wp2
 go_region
 all_goals
  go_wp2_with fail
  refine(Pj (K:=K.av a b d f) (((c.out.alloc _).cf (c:=11+b*2) g Za (FU b) Za _).oB (c:=12+b*2) g (FQ b h) Za _).drew f 1 j Za p q).mono ?_;rintro e x ⟨rfl,R1,q1⟩
  go_wp2
  go_end0
  exact⟨Z,R1,((((dT.refl w).alloc _).cf _ _).cf _ _).drew.trans q1⟩
theorem YS(R:js w l F A D K){p:Nat}(b:a<K.nS)(c:m=p)(d:p<4) :
  aF V 101 #[Po (J (O l 0 Q)),Y U a,Y U m] w λe f=>e=.returned (Bo (K.S a (11+p*2) != -1))/\f=w:=by
 subst c;exact J1 R b d
theorem YG(R:js w l F A D K){x:Nat}(c:Bool)(f:a<K.nS)(g:m=x)(h:x<4)(i:b<K.nD)(j:0<=K.D b 3/\K.D b 3<=24)(k:0<=K.D b 4/\K.D b 4<=24) :
  aF V 102 #[Po (J (O l 0 Q)),Y U a,Y U m,.agg #[Y U b,Bo c]] w λe d=>e=.returned (.tuple #[])/\js d l F A D (K.fc a x b c)/\dT F A D w d:=by
 subst g;exact CZ R c f h i j k
theorem Sw(K:aa)(n:Nat)(f:Int):(0<=(K.hZ n f).D n 3/\(K.hZ n f).D n 3<=24)/\(0<=(K.hZ n f).D n 4/\(K.hZ n f).D n 4<=24):=by
 simp[aa.hZ,aa.np,upd]
theorem VU(K:aa)(n:Nat)(f:Int)(s x:Nat):(0<=((K.hZ n f).fc s x n false).D n 3/\((K.hZ n f).fc s x n false).D n 3<=24)/\(0<=((K.hZ n f).fc s x n false).D n 4/\((K.hZ n f).fc s x n false).D n 4<=24):=by
 simp[aa.hZ,aa.fc,aa.count,aa.av,aa.cf,aa.oB,aa.np,upd]
theorem Qd(R:js w l F A D K)(G:Good K)(r:a<K.nS)(g:b<K.nD)(t:c<K.nF)(u:d<4) :
  aF V 71 #[Po (J (O l 0 Q)),Y U a,.agg #[Y U b,Y U c,Y U d]] w (Ends l F A D w (B8 K a b c d)):=by
 have f:ar (js w l F A D K):=R;have m1:=R.hF;have m2:=R.hS;have L:=R.hD;have k2:=λo=>(f.out.alloc o).k2;have c0:=λo=>(f.out.alloc o).d0 g;clear R
 by_cases h:K.D b 0=-1
 case neg =>
  have N:(K.D b 0 != -1)=true:=by simpa using h
  have E:ar (B8 K a b c d=⟨K,0,9⟩):=by unfold B8;simp[h,ar]
  clear h
  go_enter Tryz.func71,Tryz.ntmps71
  go_wp2
  go_quiet (fail)
  go_wp2
  go_ret2
  exact Ends.mk E ((f.out.alloc _).drewN _) (((dT.refl w).alloc _).drewN _)
 have N:(K.D b 0 != -1)=false:=by simpa using h
 have n:ar (_=_):=h;clear h
 go_enter Tryz.func71,Tryz.ntmps71
 go_wp2
 go_quiet (fail)
 go_wp2_with fail
 refine(zj ((f.out.alloc _).drewN _) t).mono ?_;rintro e s ⟨rfl,rfl⟩
 by_cases i:K.F c 0=0
 case neg =>
  have P:(K.F c 0==0)=false:=by simpa using i
  have E:ar (B8 K a b c d=⟨K,0,5⟩):=by unfold B8;simp[n.out,i,ar]
  clear i
  go_wp2
  go_ret2
  exact Ends.mk E ((f.out.alloc _).drewN _) (((dT.refl w).alloc _).drewN _)
 have P:(K.F c 0==0)=true:=by simpa using i
 have p:ar (_=_):=i;clear i
 by_cases q:d=3
 case pos =>
  subst q;have E:ar (B8 K a b c 3=⟨K,0,8⟩):=by unfold B8;simp[n.out,p.out,ar]
  go_wp2
  go_ret2
  exact Ends.mk E ((f.out.alloc _).drewN _) (((dT.refl w).alloc _).drewN _)
 have e3:((d:Int)+1==4)=false:=by grind
 go_wp2_with fail
 refine(J1 ((f.out.alloc _).drewN _) r u).mono ?_;rintro e s ⟨rfl,rfl⟩
 by_cases j:K.file a d=-1
 case neg =>
  have S:(K.S a (11+d*2) != -1)=true:=by simpa[aa.file] using j
  have E:ar (B8 K a b c d=⟨K,0,8⟩):=by unfold B8;simp[n.out,p.out,q,j,ar]
  clear j
  go_wp2
  go_ret2
  exact Ends.mk E ((f.out.alloc _).drewN _) (((dT.refl w).alloc _).drewN _)
 have S:(K.S a (11+d*2) != -1)=false:=by simpa[aa.file] using j
 have v:ar (_=_):=j;clear j
 go_wp2_with fail
 refine(YS (p:=d+1) ((f.out.alloc _).drewN _) r Za Za).mono ?_;rintro e s ⟨rfl,rfl⟩
 by_cases k:K.file a (d+1)=-1
 case neg =>
  have T:(K.S a (11+(d+1)*2) != -1)=true:=by simpa[aa.file] using k
  have E:ar (B8 K a b c d=⟨K,0,8⟩):=by unfold B8;simp[n.out,p.out,q,v.out,k,ar]
  clear k
  go_wp2
  go_ret2
  exact Ends.mk E ((f.out.alloc _).drewN _) (((dT.refl w).alloc _).drewN _)
 have T:(K.S a (11+(d+1)*2) != -1)=false:=by simpa[aa.file] using k
 have E:ar (B8 K a b c d=⟨(((K.an c 3 (-1)).hZ b c).fc a d b false).fc a (d+1) b true,0,0⟩):=by unfold B8;simp[n.out,p.out,q,v.out,k,ar]
 clear k
 go_wp2_with fail
 refine(Y8 ((f.out.alloc _).drewN _) _ _ t).mono ?_;rintro e s ⟨rfl,R1,q1⟩;have r0:=R1.k2;have r1:=R1.d0 g;have r2:=R1.d1 g;have r3:=R1.d2 g;have r4:=R1.d3 g;have r5:=R1.d4 g;have r6:=R1.zd;have x:b<(K.an c 3 (-1)).nD:=g;have r8:(K.an c 3 (-1)).nD<=4:=L;have W:a<(K.an c 3 (-1)).nS:=r;generalize K.an c 3 (-1)=m at *;have y:b<(m.hZ b c).nD:=x;have t2:a<(m.hZ b c).nS:=W;have z:=Sw m b c;have B:=VU m b c a d;have C:=R1.hZ x c;have M:ar _:=C;clear C;have X:b<((m.hZ b c).fc a d b false).nD:=y;have t4:a<((m.hZ b c).fc a d b false).nS:=t2;have H:ar _:=z;have I:ar _:=B;clear z B;have a':ar _:=q1;have f':ar _:=R1;clear q1 R1
 go_wp2_with fail
 refine(CZ M.out false t2 u y H.out.1 H.out.2).mono ?_;rintro e w2 ⟨rfl,R3,q3⟩;have b':ar _:=R3;have c':ar _:=q3;clear R3 q3
 go_wp2_with fail
 refine(YG (x:=d+1) b'.out true t4 Za Za X I.out.1 I.out.2).mono ?_;rintro e w3 ⟨rfl,R4,q4⟩;have d':ar _:=R4;have e':ar _:=q4;clear R4 q4
 go_wp2
 go_ret2
 exact Ends.mk E d'.out (((((((((((dT.refl w).alloc _).drewN _).trans a'.out).np _ _).np _ _).np _ _).np _ _).np _ _).trans c'.out).trans e'.out)
attribute [local go_sem ↓] Go.wp_at_zero Go.wp_at_succ
theorem zH{a b:cx}(h:f.cell? a=J k):(f.setCell b k).cell? a=J k:=by
 by_cases e:a=b
 .subst e;exact World.cell?_setCell_same f _ k h
 .rw[cD f b a k λh=>e h.symm];exact h
theorem QH(R:js w l F A D K){g h j q r:Nat}(s:a<K.nS)(t:b<4)(u:c<4)(z:d<4)(B:ar (K.S a (11+b*2)=e))(k:e<K.nD)(C:K.B a (12+b*2)=true)(v:ar (K.S a (3+c*2)=g))(x:g<K.nF)(E:ar (K.D e 0=h))(y:h<K.nF)(H:ar (K.D e 1=q))(N:q<4)(I:ar (K.D e 2=j))(P:j<4)(S:(K.D e 3==0)=false)(m:ar (r=(q+j)%4)) :
  aF V 74 #[Po (J (O l 0 Q)),Y U a,.agg #[Y U b,Y U c,Y U d]] w
   (Ends l F A D w ⟨(K.ni h (2+r) (K.F g (2+d))).np e 2 (j+1),0,0⟩):=by
 have i:ar (js w l F A D K):=R;have T:=R.hF;have W:=R.hS;have G:=R.hD;have M:=λo f=>((i.out.alloc o).alloc f).k0;have X:=λo=>(i.out.alloc o).k1;have k2:=λo f=>((i.out.alloc o).alloc f).k2;have c1:∀o,(w.alloc o).cell? (O A (a*20+11+b*2) Q)=J (Y U e):=λo=>by rw[(i.out.alloc o).ff s t,B.out]
 have c2:∀o,(w.alloc o).cell? (O A (a*20+11+b*2+1) Q)=J (Bo true):=λo=>by rw[(i.out.alloc o).fe s t,C]
 have c3:∀o f,((w.alloc o).alloc f).cell? (O D (e*5) Q)=J (Y U h):=λo f=>by rw[((i.out.alloc o).alloc f).d0 k,E.out]
 have c4:∀o f,((w.alloc o).alloc f).cell? (O D (e*5+1) Q)=J (Y U q):=λo f=>by rw[((i.out.alloc o).alloc f).d1 k,H.out]
 have c5:∀o f,((w.alloc o).alloc f).cell? (O D (e*5+2) Q)=J (Y U j):=λo f=>by rw[((i.out.alloc o).alloc f).d2 k,I.out]
 have c6:=λo f=>((i.out.alloc o).alloc f).d3 k;have c7:=λo f=>((i.out.alloc o).alloc f).fw x z;have c8:=λo f=>((i.out.alloc o).alloc f).fw (j:=r) y (by have:=m.out;omega);have z1:=λo f=>((i.out.alloc o).alloc f).zf;have z2:=λo f=>((i.out.alloc o).alloc f).zd;have n1:=R.fd;have n2:=R.kf;have n3:F≠l:=λn=>n2 n.symm;have n4:D≠F:=λn=>n1 n.symm;clear R;have b1:(0:Int)<=(d:Int):=by omega
 have b2:(d:Int)<4:=by omega
 have b3:(0:Int)<=(h:Int):=by omega
 have b4:(h:Int)<(K.nF:Int):=by omega
 have b5:(0:Int)<=(r:Int):=by omega
 have b6:(r:Int)<4:=by have:=m.out;omega
 have a1:IntKind.i64.wrap ((q:Int)+(j:Int))=(q:Int)+(j:Int):=gP _ Za;have a2:((q:Int)+(j:Int)).tmod 4=(r:Int):=by rw[aZ Za];have:=m.out;omega
 have a3:((q:Int)+(j:Int))%4=(r:Int):=by have:=m.out;omega
 have e1:((e:Int)==-1)=false:=by rw[beq_eq_false_iff_ne];omega
 have e2:((j:Int)==4)=false:=by rw[beq_eq_false_iff_ne];omega
 have e3:(K.S a (3+c*2) != -1)=true:=by rw[v.out,bne_iff_ne];omega
 go_enter fQ,fB
 go_wp2
 go_quiet (fail)
 go_wp2_with fail
 refine(p8 (((i.out.alloc _).alloc _).drewN _) s u).mono ?_;rintro n L ⟨rfl,rfl⟩
 go_wp2
 go_quiet (fail)
 go_wp2_with fail
 go_region_held3 (λp=>p.cell? (O l 0 Q)=J (Sc (J (O F 0 Q)) K.nF K.nF)/\p.cell? (O D (e*5) Q)=J (Y U h)/\p.cell? (O D (e*5+1) Q)=J (Y U q)/\p.cell? (O D (e*5+2) Q)=J (Y U j)/\p.cell? (O F (g*6+2+d) Q)=J (Y U (K.F g (2+d)))) ((repeat' apply db)<;>(first|(go_keep;done)|(refine zH ?_;go_keep)))
  (first|(go_at_call 100;refine(zP (((i.out.alloc _).alloc _).drewN _) s u v.out x).mono ?_;rintro n L ⟨rfl,nq',rfl⟩))
 all_goals go_wp2
 all_goals
  go_ret2
  exact Ends.mk (show ar _ from Z) (((((i.out.alloc _).alloc _).drewN _).ni y (by have:=m.out;omega) Za _).np k Za Za _) ((((((dT.refl w).alloc _).alloc _).drewN _).ni _ _).np _ _)
theorem VW(R:js w l F A D K)(f:a<K.nS)(g:b<4)(h:ar (K.S a (11+b*2)=-1)) :
  aF V 74 #[Po (J (O l 0 Q)),Y U a,.agg #[Y U b,Y U c,Y U d]] w (Ends l F A D w ⟨K,0,8⟩):=by
 have e:ar (js w l F A D K):=R;have i:=R.hS;have j:=λo=>(e.out.alloc o).k1;have k:∀o,(w.alloc o).cell? (O A (a*20+11+b*2) Q)=J (Y U (-1)):=λo=>by rw[(e.out.alloc o).ff f g,h.out]
 have m:=λo=>(e.out.alloc o).fe f g;clear R
 go_enter fQ,fB
 go_wp2
 go_quiet (fail)
 go_wp2
 go_ret2
 exact Ends.mk (show ar _ from Z) (((e.out.alloc _).alloc _).drewN _) ((((dT.refl w).alloc _).alloc _).drewN _)
theorem c6X(R:js w l F A D K)(g:a<K.nS)(h:b<4)(i:ar (K.S a (11+b*2)=e))(j:K.B a (12+b*2)=false) :
  aF V 74 #[Po (J (O l 0 Q)),Y U a,.agg #[Y U b,Y U c,Y U d]] w (Ends l F A D w ⟨K,0,8⟩):=by
 have f:ar (js w l F A D K):=R;have k:=R.hS;have m:=λo=>(f.out.alloc o).k1;have n:∀o,(w.alloc o).cell? (O A (a*20+11+b*2) Q)=J (Y U e):=λo=>by rw[(f.out.alloc o).ff g h,i.out]
 have p:∀o,(w.alloc o).cell? (O A (a*20+11+b*2+1) Q)=J (Bo false):=λo=>by rw[(f.out.alloc o).fe g h,j]
 have q:((e:Int)==-1)=false:=by rw[beq_eq_false_iff_ne];omega
 clear R
 go_enter fQ,fB
 go_wp2
 go_quiet (fail)
 go_wp2
 go_ret2
 exact Ends.mk (show ar _ from Z) (((f.out.alloc _).alloc _).drewN _) ((((dT.refl w).alloc _).alloc _).drewN _)
theorem c6Y(R:js w l F A D K)(g:a<K.nS)(h:b<4)(i:c<4)(j:ar (K.S a (11+b*2)=e))(k:K.B a (12+b*2)=true)(m:ar (K.S a (3+c*2)=-1)) :
  aF V 74 #[Po (J (O l 0 Q)),Y U a,.agg #[Y U b,Y U c,Y U d]] w (Ends l F A D w ⟨K,0,6⟩):=by
 have f:ar (js w l F A D K):=R;have n:=R.hS;have p:=λo=>(f.out.alloc o).k1;have q:∀o,(w.alloc o).cell? (O A (a*20+11+b*2) Q)=J (Y U e):=λo=>by rw[(f.out.alloc o).ff g h,j.out]
 have r:∀o,(w.alloc o).cell? (O A (a*20+11+b*2+1) Q)=J (Bo true):=λo=>by rw[(f.out.alloc o).fe g h,k]
 have s:((e:Int)==-1)=false:=by rw[beq_eq_false_iff_ne];omega
 have t:(K.S a (3+c*2) != -1)=false:=by rw[m.out];rfl
 clear R
 go_enter fQ,fB
 go_wp2
 go_quiet (fail)
 go_wp2_with fail
 refine(p8 (((f.out.alloc _).alloc _).drewN _) g i).mono ?_;rintro u v ⟨rfl,rfl⟩
 go_wp2
 go_ret2
 exact Ends.mk (show ar _ from Z) (((f.out.alloc _).alloc _).drewN _) ((((dT.refl w).alloc _).alloc _).drewN _)
theorem Lo(R:js w l F A D K)(i:Int)(h:a<K.nS)(m:b<4)(n:c<4)(q:ar (K.S a (11+b*2)=e))(p:e<K.nD)(r:K.B a (12+b*2)=true)(s:ar (K.S a (3+c*2)≠-1))(t:(ar (K.D e 3=0)/\ar (i=13))\/(ar (K.D e 3≠0)/\ar (K.D e 2=4)/\ar (i=11))) :
  aF V 74 #[Po (J (O l 0 Q)),Y U a,.agg #[Y U b,Y U c,Y U d]] w (Ends l F A D w ⟨K,0,i⟩):=by
 have f:ar (js w l F A D K):=R;have z:=R.hS;have B:=R.hD;have C:=λo=>(f.out.alloc o).k1;have E:=λo g=>((f.out.alloc o).alloc g).k2;have H:∀o,(w.alloc o).cell? (O A (a*20+11+b*2) Q)=J (Y U e):=λo=>by rw[(f.out.alloc o).ff h m,q.out]
 have I:∀o,(w.alloc o).cell? (O A (a*20+11+b*2+1) Q)=J (Bo true):=λo=>by rw[(f.out.alloc o).fe h m,r]
 have L:=λo g=>((f.out.alloc o).alloc g).d2 p;have N:=λo g=>((f.out.alloc o).alloc g).d3 p;have P:((e:Int)==-1)=false:=by rw[beq_eq_false_iff_ne];omega
 have S:(K.S a (3+c*2) != -1)=true:=by rw[bne_iff_ne];exact s.out
 clear R;rcases t with⟨j,k⟩|⟨j,u,k⟩
 .have v:(K.D e 3==0)=true:=by rw[j.out];rfl
  go_enter fQ,fB
  go_wp2
  go_quiet (fail)
  go_wp2_with fail
  refine(p8 (((f.out.alloc _).alloc _).drewN _) h n).mono ?_;rintro x y ⟨rfl,rfl⟩
  go_wp2
  go_quiet (fail)
  go_wp2
  go_ret2
  rw[k.out];exact Ends.mk (show ar _ from Z) (((f.out.alloc _).alloc _).drewN _) ((((dT.refl w).alloc _).alloc _).drewN _)
 .have v:(K.D e 3==0)=false:=by rw[beq_eq_false_iff_ne];exact j.out
  have T:(K.D e 2==4)=true:=by rw[u.out];rfl
  go_enter fQ,fB
  go_wp2
  go_quiet (fail)
  go_wp2_with fail
  refine(p8 (((f.out.alloc _).alloc _).drewN _) h n).mono ?_;rintro x y ⟨rfl,rfl⟩
  go_wp2
  go_quiet (fail)
  go_wp2
  go_ret2
  rw[k.out];exact Ends.mk (show ar _ from Z) (((f.out.alloc _).alloc _).drewN _) ((((dT.refl w).alloc _).alloc _).drewN _)
theorem Yp(R:js w l F A D K)(G:Good K)(f:a<K.nS)(i:b<4)(m:c<4)(x:d<4) :
  aF V 74 #[Po (J (O l 0 Q)),Y U a,.agg #[Y U b,Y U c,Y U d]] w (Ends l F A D w (H8 K a b c d)):=by
 unfold H8;rcases G.file a b f i with s|⟨s,I,v⟩
 .rw[mZ (bP s)];exact VW R f i s
 obtain⟨e,n⟩:∃e:Nat,K.file a b=e:=⟨(K.file a b).toNat,by omega⟩;have o:e<K.nD:=by omega
 rw[n]at v ⊢;simp only[au]at v ⊢
 by_cases j:K.end a b=true
 .rw[mY (by rw[j];simp)]
  by_cases p:K.dy a c=-1
  .rw[mZ p];exact c6Y R f i m n j p
  rw[mY p]
  by_cases r:K.D e 3=0
  .rw[mZ r];exact Lo R 13 f i m n o j p (bP ⟨r,Z⟩)
  rw[mY r]
  by_cases t:K.D e 2=4
  .rw[mZ t];exact Lo R 11 f i m n o j p (ba ⟨r,t,Z⟩)
  rw[mY t];have L:=G.head e o;have N:=G.cnt e o;obtain⟨g,y⟩:∃g:Nat,K.dy a c=g:=by rcases G.dy a c f m with h|h;exact absurd h p;exact⟨(K.dy a c).toNat,by omega⟩
  have z:g<K.nF:=by rcases G.dy a c f m with h|h;all_goals grind
  obtain⟨h,B⟩:∃h:Nat,K.D e 0=h:=⟨(K.D e 0).toNat,by omega⟩;have C:h<K.nF:=by rcases G.pc e o with k|k<;>omega
  obtain⟨q,E⟩:∃q:Nat,K.D e 1=q:=⟨(K.D e 1).toNat,by omega⟩;obtain⟨u,H⟩:∃u:Nat,K.D e 2=u:=⟨(K.D e 2).toNat,by omega⟩;have:=QH (r:=(q+u)%4) R f i m x n o j y z B C E Za H Za (by grind) Z
  grind
 .rw[mZ (ba (by simpa using j))];exact c6X R f i n (by simpa[aa.end] using j)
theorem SW(R:js w l F A D K){g h j q r:Nat}(n:a<K.nS)(t:b<4)(u:c<4)(v:d<4)(x:ar (K.S a (11+b*2)=e))(k:e<K.nD)(y:K.B a (12+b*2)=false)(P:K.B a (4+c*2)=true)(z:ar (K.S a (3+c*2)=g))(s:g<K.nF)(B:ar (K.D e 0=h))(C:h<K.nF)(E:ar (K.D e 1=q))(H:q<4)(I:ar (K.D e 2=(j+1:Nat)))(S:j<4)(L:ar (r=(q+1)%4)) :
  aF V 75 #[Po (J (O l 0 Q)),Y U a,.agg #[Y U b,Y U c,Y U d]] w
   (Ends l F A D w ⟨((K.ni g (2+d) (K.F h (2+q))).np e 1 r).np e 2 j,0,0⟩):=by
 have i:ar (js w l F A D K):=R;have T:=R.hF;have W:=R.hS;have G:=R.hD;have M:=λo f=>((i.out.alloc o).alloc f).k0;have X:=λo=>(i.out.alloc o).k1;have k2:=λo f=>((i.out.alloc o).alloc f).k2;have c1:∀o,(w.alloc o).cell? (O A (a*20+11+b*2) Q)=J (Y U e):=λo=>by rw[(i.out.alloc o).ff n t,x.out]
 have c2:∀o,(w.alloc o).cell? (O A (a*20+11+b*2+1) Q)=J (Bo false):=λo=>by rw[(i.out.alloc o).fe n t,y]
 have c3:∀o f,((w.alloc o).alloc f).cell? (O D (e*5) Q)=J (Y U h):=λo f=>by rw[((i.out.alloc o).alloc f).d0 k,B.out]
 have c4:∀o f,((w.alloc o).alloc f).cell? (O D (e*5+1) Q)=J (Y U q):=λo f=>by rw[((i.out.alloc o).alloc f).d1 k,E.out]
 have c5:∀o f,((w.alloc o).alloc f).cell? (O D (e*5+2) Q)=J (Y U (j+1:Int)):=λo f=>by rw[((i.out.alloc o).alloc f).d2 k,I.out];rfl
 have c7:=λo f=>((i.out.alloc o).alloc f).fw s v;have c8:=λo f=>((i.out.alloc o).alloc f).fw (j:=q) C H;have z1:=λo f=>((i.out.alloc o).alloc f).zf;have z2:=λo f=>((i.out.alloc o).alloc f).zd;have n1:=R.fd;have n2:=R.kf;have n3:F≠l:=λm=>n2 m.symm;have n4:D≠F:=λm=>n1 m.symm;clear R;have b1:(0:Int)<=(d:Int):=by omega
 have b2:(d:Int)<4:=by omega
 have b3:(0:Int)<=(h:Int):=by omega
 have b4:(h:Int)<(K.nF:Int):=by omega
 have b5:(0:Int)<=(q:Int):=by omega
 have b6:(q:Int)<4:=by omega
 have a3:((q:Int)+1)%4=(r:Int):=by have:=L.out;omega
 have e1:((e:Int)==-1)=false:=by rw[beq_eq_false_iff_ne];omega
 have e2:((j:Int)+1==0)=false:=by rw[beq_eq_false_iff_ne];omega
 go_enter fP,fA
 go_wp2
 go_quiet (fail)
 go_wp2_with fail
 refine(V9 (((i.out.alloc _).alloc _).drewN _) n u).mono ?_;rintro m N ⟨rfl,rfl⟩
 go_wp2
 go_quiet (fail)
 go_wp2_with fail
 go_region_held3 (λp=>p.cell? (O l 0 Q)=J (Sc (J (O F 0 Q)) K.nF K.nF)/\p.cell? (O D (e*5) Q)=J (Y U h)/\p.cell? (O D (e*5+1) Q)=J (Y U q)/\p.cell? (O F (h*6+2+q) Q)=J (Y U (K.F h (2+q)))) ((repeat' apply db)<;>(first|(go_keep;done)|(refine zH ?_;go_keep)))
  (first|(go_at_call 100;refine(zP (((i.out.alloc _).alloc _).drewN _) n u z.out s).mono ?_;rintro m N ⟨rfl,nq',rfl⟩))
 all_goals go_wp2
 all_goals
  go_ret2
  exact Ends.mk (show ar _ from Z) ((((((i.out.alloc _).alloc _).drewN _).ni s Za Za _).np k Za Za _).np k Za Za _) (((((((dT.refl w).alloc _).alloc _).drewN _).ni _ _).np _ _).np _ _)
theorem QO(R:js w l F A D K)(f:a<K.nS)(g:b<4)(h:ar (K.S a (11+b*2)=-1)) :
  aF V 75 #[Po (J (O l 0 Q)),Y U a,.agg #[Y U b,Y U c,Y U d]] w (Ends l F A D w ⟨K,0,8⟩):=by
 have e:ar (js w l F A D K):=R;have i:=R.hS;have j:=λo=>(e.out.alloc o).k1;have k:∀o,(w.alloc o).cell? (O A (a*20+11+b*2) Q)=J (Y U (-1)):=λo=>by rw[(e.out.alloc o).ff f g,h.out]
 have m:=λo=>(e.out.alloc o).fe f g;clear R
 go_enter fP,fA
 go_wp2
 go_quiet (fail)
 go_wp2
 go_ret2
 exact Ends.mk (show ar _ from Z) (((e.out.alloc _).alloc _).drewN _) ((((dT.refl w).alloc _).alloc _).drewN _)
theorem QS(R:js w l F A D K)(g:a<K.nS)(h:b<4)(i:ar (K.S a (11+b*2)=e))(j:K.B a (12+b*2)=true) :
  aF V 75 #[Po (J (O l 0 Q)),Y U a,.agg #[Y U b,Y U c,Y U d]] w (Ends l F A D w ⟨K,0,8⟩):=by
 have f:ar (js w l F A D K):=R;have k:=R.hS;have m:=λo=>(f.out.alloc o).k1;have n:∀o,(w.alloc o).cell? (O A (a*20+11+b*2) Q)=J (Y U e):=λo=>by rw[(f.out.alloc o).ff g h,i.out]
 have p:∀o,(w.alloc o).cell? (O A (a*20+11+b*2+1) Q)=J (Bo true):=λo=>by rw[(f.out.alloc o).fe g h,j]
 have q:((e:Int)==-1)=false:=by rw[beq_eq_false_iff_ne];omega
 clear R
 go_enter fP,fA
 go_wp2
 go_quiet (fail)
 go_wp2
 go_ret2
 exact Ends.mk (show ar _ from Z) (((f.out.alloc _).alloc _).drewN _) ((((dT.refl w).alloc _).alloc _).drewN _)
theorem Vl(R:js w l F A D K)(g:a<K.nS)(h:b<4)(i:c<4)(j:ar (K.S a (11+b*2)=e))(k:K.B a (12+b*2)=false)(m:K.B a (4+c*2)=false) :
  aF V 75 #[Po (J (O l 0 Q)),Y U a,.agg #[Y U b,Y U c,Y U d]] w (Ends l F A D w ⟨K,0,6⟩):=by
 have f:ar (js w l F A D K):=R;have n:=R.hS;have p:=λo=>(f.out.alloc o).k1;have q:∀o,(w.alloc o).cell? (O A (a*20+11+b*2) Q)=J (Y U e):=λo=>by rw[(f.out.alloc o).ff g h,j.out]
 have r:∀o,(w.alloc o).cell? (O A (a*20+11+b*2+1) Q)=J (Bo false):=λo=>by rw[(f.out.alloc o).fe g h,k]
 have s:((e:Int)==-1)=false:=by rw[beq_eq_false_iff_ne];omega
 clear R
 go_enter fP,fA
 go_wp2
 go_quiet (fail)
 go_wp2_with fail
 refine(V9 (((f.out.alloc _).alloc _).drewN _) g i).mono ?_;rintro t u ⟨rfl,rfl⟩
 go_wp2
 go_ret2
 exact Ends.mk (show ar _ from Z) (((f.out.alloc _).alloc _).drewN _) ((((dT.refl w).alloc _).alloc _).drewN _)
theorem Kj(R:js w l F A D K)(i:Int)(h:a<K.nS)(m:b<4)(n:c<4)(q:ar (K.S a (11+b*2)=e))(p:e<K.nD)(r:K.B a (12+b*2)=false)(y:K.B a (4+c*2)=true)(s:ar (K.D e 2=0))(t:(ar (K.D e 4=0)/\ar (i=12))\/(ar (K.D e 4≠0)/\ar (i=11))) :
  aF V 75 #[Po (J (O l 0 Q)),Y U a,.agg #[Y U b,Y U c,Y U d]] w (Ends l F A D w ⟨K,0,i⟩):=by
 have f:ar (js w l F A D K):=R;have z:=R.hS;have B:=R.hD;have C:=λo=>(f.out.alloc o).k1;have E:=λo g=>((f.out.alloc o).alloc g).k2;have H:∀o,(w.alloc o).cell? (O A (a*20+11+b*2) Q)=J (Y U e):=λo=>by rw[(f.out.alloc o).ff h m,q.out]
 have I:∀o,(w.alloc o).cell? (O A (a*20+11+b*2+1) Q)=J (Bo false):=λo=>by rw[(f.out.alloc o).fe h m,r]
 have L:∀o g,((w.alloc o).alloc g).cell? (O D (e*5+2) Q)=J (Y U 0):=λo g=>by rw[((f.out.alloc o).alloc g).d2 p,s.out]
 have N:=λo g=>((f.out.alloc o).alloc g).d4 p;have P:((e:Int)==-1)=false:=by rw[beq_eq_false_iff_ne];omega
 clear R;rcases t with⟨j,k⟩|⟨j,k⟩
 .have u:(K.D e 4==0)=true:=by rw[j.out];rfl
  go_enter fP,fA
  go_wp2
  go_quiet (fail)
  go_wp2_with fail
  refine(V9 (((f.out.alloc _).alloc _).drewN _) h n).mono ?_;rintro v x ⟨rfl,rfl⟩
  go_wp2
  go_quiet (fail)
  go_wp2
  go_ret2
  rw[k.out];exact Ends.mk (show ar _ from Z) (((f.out.alloc _).alloc _).drewN _) ((((dT.refl w).alloc _).alloc _).drewN _)
 .have u:(K.D e 4==0)=false:=by rw[beq_eq_false_iff_ne];exact j.out
  go_enter fP,fA
  go_wp2
  go_quiet (fail)
  go_wp2_with fail
  refine(V9 (((f.out.alloc _).alloc _).drewN _) h n).mono ?_;rintro v x ⟨rfl,rfl⟩
  go_wp2
  go_quiet (fail)
  go_wp2
  go_ret2
  rw[k.out];exact Ends.mk (show ar _ from Z) (((f.out.alloc _).alloc _).drewN _) ((((dT.refl w).alloc _).alloc _).drewN _)
theorem Xk(R:js w l F A D K)(G:Good K)(f:a<K.nS)(i:b<4)(j:c<4)(z:d<4) :
  aF V 75 #[Po (J (O l 0 Q)),Y U a,.agg #[Y U b,Y U c,Y U d]] w (Ends l F A D w (Q0 K a b c d)):=by
 unfold Q0;rcases G.file a b f i with t|⟨t,P,v⟩
 .rw[mZ (bP t)];exact QO R f i t
 obtain⟨e,m⟩:∃e:Nat,K.file a b=e:=⟨(K.file a b).toNat,by omega⟩;have n:e<K.nD:=by omega
 rw[m]at v ⊢;simp only[au]at v ⊢
 by_cases u:K.end a b=true
 .rw[mZ (ba u)];exact QS R f i m u
 have r:K.end a b=false:=by simpa using u
 rw[mY (by rw[r];simp)]
 by_cases o:K.wr a c=true
 .rw[mY (by rw[o];simp)];have S:=G.head e n;have T:=G.cnt e n
  by_cases p:K.D e 2=0
  .by_cases s:K.D e 4=0
   .rw[mZ ⟨p,s⟩];exact Kj R 12 f i j m n r o p (bP ⟨s,Z⟩)
   .rw[mY λh=>s h.2,mZ p];exact Kj R 11 f i j m n r o p (ba ⟨s,Z⟩)
  .rw[mY λh=>p h.1,mY p];have B:=G.wr a c f j o;obtain⟨g,C⟩:∃g:Nat,K.dy a c=g:=by rcases G.dy a c f j with h|h;exact absurd h B;exact⟨(K.dy a c).toNat,by omega⟩
   have E:g<K.nF:=by rcases G.dy a c f j with h|h;all_goals grind
   obtain⟨h,H⟩:∃h:Nat,K.D e 0=h:=⟨(K.D e 0).toNat,by omega⟩;have I:h<K.nF:=by rcases G.pc e n with k|k<;>omega
   obtain⟨q,L⟩:∃q:Nat,K.D e 1=q:=⟨(K.D e 1).toNat,by omega⟩;obtain⟨x,N⟩:∃x:Nat,K.D e 2=(x+1:Nat):=⟨(K.D e 2 - 1).toNat,by omega⟩;have:=SW (r:=(q+1)%4) R f i j z m n r o C E H I L Za N Za Z
   grind
 .have y:K.wr a c=false:=by simpa using o
  rw[mZ y];exact Vl R f i j m r y
variable{s:Nat}
theorem VH(R:js w l F A D K)(c:Int)(d:s<K.nS)(f:a<4)(g:b<K.nF) :
  aF V 36 #[Po (J (O l 0 Q)),Y U s,Y U 2,.agg #[Y U a,Y U b,Y U c]] w (Ends l F A D w (pH K s a b)):=by
 have h:ar (js w l F A D K):=R;clear R
 go_enter bU,bK
 go_wp2_with fail
 refine(Tb (h.out.alloc _) c d f g).mono ?_;rintro e i ⟨rfl,R1,q1⟩
 go_wp2
 go_ret2
 exact⟨Z,R1,((dT.refl w).alloc _).trans q1⟩
theorem Uf(R:js w l F A D K)(G:Good K)(d:s<K.nS)(f:a<K.nD)(g:b<K.nF)(h:c<4) :
  aF V 36 #[Po (J (O l 0 Q)),Y U s,Y U 13,.agg #[Y U a,Y U b,Y U c]] w (Ends l F A D w (B8 K s a b c)):=by
 have i:ar (js w l F A D K):=R;clear R
 go_enter bU,bK
 go_wp2_with fail
 refine(Qd (i.out.alloc _) G d f g h).mono ?_;rintro e j ⟨rfl,R1,q1⟩
 go_wp2
 go_ret2
 exact⟨Z,R1,((dT.refl w).alloc _).trans q1⟩
theorem RJ(R:js w l F A D K)(G:Good K)(d:s<K.nS)(f:a<4)(g:b<4)(h:c<4) :
  aF V 36 #[Po (J (O l 0 Q)),Y U s,Y U 16,.agg #[Y U a,Y U b,Y U c]] w (Ends l F A D w (H8 K s a b c)):=by
 have i:ar (js w l F A D K):=R;clear R
 go_enter bU,bK
 go_wp2_with fail
 refine(Yp (i.out.alloc _) G d f g h).mono ?_;rintro e j ⟨rfl,R1,q1⟩
 go_wp2
 go_ret2
 exact⟨Z,R1,((dT.refl w).alloc _).trans q1⟩
theorem WL(R:js w l F A D K)(G:Good K)(d:s<K.nS)(f:a<4)(g:b<4)(h:c<4) :
  aF V 36 #[Po (J (O l 0 Q)),Y U s,Y U 17,.agg #[Y U a,Y U b,Y U c]] w (Ends l F A D w (Q0 K s a b c)):=by
 have i:ar (js w l F A D K):=R;clear R
 go_enter bU,bK
 go_wp2_with fail
 refine(Xk (i.out.alloc _) G d f g h).mono ?_;rintro e j ⟨rfl,R1,q1⟩
 go_wp2
 go_ret2
 exact⟨Z,R1,((dT.refl w).alloc _).trans q1⟩
theorem Uv(R:js w l F A D K)(G:Good K)(c:Int)(d:s<K.nS)(f:a<4)(g:b<4) :
  aF V 36 #[Po (J (O l 0 Q)),Y U s,Y U 18,.agg #[Y U a,Y U b,Y U c]] w (Ends l F A D w (Z4 K s a b)):=by
 have h:ar (js w l F A D K):=R;clear R
 go_enter bU,bK
 go_wp2_with fail
 refine(YF (h.out.alloc _) G c d f g).mono ?_;rintro e i ⟨rfl,R1,q1⟩
 go_wp2
 go_ret2
 exact⟨Z,R1,((dT.refl w).alloc _).trans q1⟩
theorem UH(R:js w l F A D K)(G:Good K)(c:Int)(d:s<K.nS)(f:a<4)(g:b<4) :
  aF V 36 #[Po (J (O l 0 Q)),Y U s,Y U 19,.agg #[Y U a,Y U b,Y U c]] w (Ends l F A D w (J2 K s a b c)):=by
 have h:ar (js w l F A D K):=R;clear R
 go_enter bU,bK
 go_wp2_with fail
 refine(c2D (h.out.alloc _) G c d f g).mono ?_;rintro e i ⟨rfl,R1,q1⟩
 go_wp2
 go_ret2
 exact⟨Z,R1,((dT.refl w).alloc _).trans q1⟩
theorem C4:∀(d:List Vu) (o:Nat) {w:Wd} {f:Nat->Vu} (h:w.rowIs a b c f),(w.setCells a o d).rowIs a b c (λj=>if o<=j/\j<o+d.length then d.getD (j - o) (Bo false) else f j)
 | [],o,w,f,h=>by
  show w.rowIs a b c _;refine h.congr λj i=>?_;rw[mY Zc]
 | v::r,o,w,f,h=>by
  show((w.setCell (O a o Q) v).setCells a (o+1) r).rowIs a b c _;refine(C4 r (o+1) (h.set o v)).congr λj i=>?_
  by_cases e:j=o
  .subst e;rw[mY Za];simp
  .by_cases g:o+1<=j/\j<o+1+r.length
   .rw[mZ g,mZ (by simp;omega)];obtain⟨m,k⟩:∃m,j=o+1+m:=⟨j - (o+1),by omega⟩;subst k;rw[show o+1+m - (o+1)=m by omega,show o+1+m - o=m+1 by omega];rfl
   .rw[mY g,mY e,mY (by simp only[cI];omega)]
theorem l8:∀(b:List Vu) (o:Nat) (w:Wd),(w.setCells a o b).heap.size=w.heap.size
 | [],_,_=>rfl
 | v::r,o,w=>by show((w.setCell (O a o Q) v).setCells a (o+1) r).heap.size=_;rw[l8 r];exact i6
theorem p9(c:a<=b):∀(d:List Vu) (o:Nat) {w:Wd} (h:bE a f w),bE a f (w.setCells b o d)
 | [],_,_,h=>h
 | v::r,o,w,h=>p9 c r (o+1) (h.setCell c v)
theorem I3(c:b≠a):∀(d:List Vu) (o:Nat) (w:Wd),(w.setCells a o d).heap[b]?=w.heap[b]?
 | [],_,_=>rfl
 | v::r,o,w=>by show((w.setCell (O a o Q) v).setCells a (o+1) r).heap[b]?=_;rw[I3 c r];exact dK _ _ _ _ c
theorem D5{w:Wd}{f:Nat->Vu}(h:w.rowIs a b c f){o m:Nat}(d:o+m<=c):w.there a o m:=λj e =>
 ⟨by rw[h.cell Za];rfl,h.frozen _⟩
theorem EP{w:Wd}{f:Nat->Vu}(h:w.rowIs a b c f){o m:Nat}(g:o+m<=c):w.rangeAt a o ((aO m).map λj=>f (o+j)):=λj v d=>by
 have e:j<m:=by have:=(bD.1 d).1;simpa using this
 rw[bO,cW e]at d;rw[h.cell Za];exact d
theorem K7(w:Wd)(c:Array Vu)(t:Ti):(w.alloc (.cells c t)).rowIs w.heap.size t c.size (λj=>c.getD j (Bo false)) :=
 World.rowIs_alloc w c t _ λi a=>by simp[a]
theorem xI(w:Wd)(o:Obj)(c:Array Vu)(t:Ti):((w.alloc o).alloc (.cells c t)).rowIs (w.heap.size+1) t c.size (λj=>c.getD j (Bo false)):=by
 have h:=K7 (w.alloc o) c t;have e:(w.alloc o).heap.size=w.heap.size+1:=by simp
 rw[e]at h;exact h
theorem EZ{P:Pg}{c:Func}{p:Tmp}(h:c.results=#[.cell p x])(w:Wd)(b:Nat)(a:List Vu){d:TypeDesc}(e:i.getD p Ud=Po (J (O b 0 Q)))(f:w.rangeAt b 0 a)(g:P.underlying x=J d)(j:d.isRow=true)(k:(P.info? x).map (·.size)=J a.length) :
  (de c i).run P w=.ok (.agg a.toArray) w:=by
 have m:i[p]?.getD Ud=Po (J (O b 0 Q)):=by simpa using e
 simp[de,h,m,asAddr,run_loadVar_mid w b 0 x a d f g j k]
def G5(n a b:Int):Bool:=decide (a<=n)&&decide (n<=b)
theorem W6{w:Wd} :
  aF V 26 #[Y U m,Y U n,Y U o] w λe a=>e=.returned (Bo (G5 m n o))/\a=w:=by
 by_cases b:n<=m
 .by_cases c:m<=o
  .have E:ar (G5 m n o=true):=by unfold ar G5;simp[b,c]
   go_enter lR,kS
   go_wp2
   go_ret
   rw[E.out];exact⟨Z,Z⟩
  .have E:ar (G5 m n o=false):=by unfold ar G5;simp;omega
   go_enter lR,kS
   go_wp2
   go_ret
   rw[E.out];exact⟨Z,Z⟩
 .have E:ar (G5 m n o=false):=by unfold ar G5;simp;omega
  go_enter lR,kS
  go_wp2
  go_ret
  rw[E.out];exact⟨Z,Z⟩
def N6(a b j:Nat):Vu :=
 if j=1\/j=2 then Y U (-1) else if 3<=j/\j<=10 then(if j%2=0 then Bo false else if j<3+a*2 then Y U (-1) else Y U 0)
 else if 11<=j/\j<=18 then(if j%2=0 then Bo false else if j<11+b*2 then Y U (-1) else Y U 0) else Y U 0
theorem Qg(a j:Nat)(g:a<4):(if j=3+a*2 then Y U (-1) else N6 a 0 j)=N6 (a+1) 0 j:=by
 unfold N6
 by_cases e:j=3+a*2
 .rw[mZ e,mY Za,mZ Za,mY Za,mZ Za]
 .rw[mY e]
  by_cases b:j=1\/j=2
  .rw[mZ b,mZ b]
  rw[mY b,mY b]
  by_cases c:3<=j/\j<=10
  .rw[mZ c,mZ c]
   by_cases d:j%2=0
   .rw[mZ d,mZ d]
   rw[mY d,mY d]
   by_cases f:j<3+a*2
   .rw[mZ f,mZ Za]
   .rw[mY f,mY Za]
  .rw[mY c,mY c]
theorem UI(b j:Nat)(h:b<4):(if j=11+b*2 then Y U (-1) else N6 4 b j)=N6 4 (b+1) j:=by
 unfold N6
 by_cases e:j=11+b*2
 .rw[mZ e,mY Za,mY Za,mZ Za,mY Za,mZ Za]
 .rw[mY e]
  by_cases a:j=1\/j=2
  .rw[mZ a,mZ a]
  rw[mY a,mY a]
  by_cases c:3<=j/\j<=10
  .rw[mZ c,mZ c]
  rw[mY c,mY c]
  by_cases d:11<=j/\j<=18
  .rw[mZ d,mZ d]
   by_cases f:j%2=0
   .rw[mZ f,mZ f]
   rw[mY f,mY f]
   by_cases g:j<11+b*2
   .rw[mZ g,mZ Za]
   .rw[mY g,mY Za]
  .rw[mY d,mY d]
def sq:List dM:=(aO 20).map (N6 4 4)
theorem Q9:sq.length=20:=rfl
theorem Jc:sq.toArray.all (·.oneCell')=true:=by kernel_rfl
theorem Pp(w:Wd) :
  aF V 29 #[] w λe c=>e=.returned (.agg sq.toArray)/\bE w.heap.size w c:=by
 go_enter Tryz.func29,Tryz.ntmps29
 go_wp2_with (refine dV Z 82 _ _ Z (w.heap.size+1) 0 _ Z Z ?_ Zd Zd ?_)
 .exact D5 (xI w _ _ _) Zc
 go_loopw [5] (λi c=>∃k:Nat,k<=4/\i=Y U k/\bE w.heap.size w c/\c.heap.size=w.heap.size+2/\(∃f,c.rowIs w.heap.size 82 20 f)/\c.rowIs (w.heap.size+1) 82 20 (N6 k 0)) λi _=>4 - (bT i).toNat
 case atStart =>
  refine⟨0,by omega,Z,?_,?_,?_,?_⟩
  .exact p9 Za _ _ (((bz _ _).alloc (af _) _).alloc Zc _)
  .rw[l8];simp
  .refine⟨_,World.rowIs.of_block (World.rowIs.alloc (K7 w _ _) _) (I3 Za _ _ _)⟩
  .refine(C4 _ 0 (xI w _ _ _)).congr λj u=>?_;have P:j<20:=u;cases j,(Za:j<20) using ox
   all_goals rfl
 case round =>
  obtain⟨k,y,rfl,d,m,⟨p,g⟩,b⟩:=hrel
  by_cases v:k<4
  .have z:=b.cell (i:=3+k*2) Za;have B:=b.frozen;have n:ar (bE w.heap.size w wr):=d;have h:ar (wr.rowIs w.heap.size 82 20 p):=g;have o:ar (wr.rowIs (w.heap.size+1) 82 20 (N6 k 0)):=b;have q:ar (wr.heap.size=w.heap.size+2):=m;clear d g b m
   go_wp2
   refine⟨⟨k+1,by omega,by go_num,n.out.setCell Zc _,by rw[i6];exact q.out,⟨p,h.out.setOther Zc _⟩,(o.out.set _ _).congr λj u=>Qg k j v⟩,by simp[bT];omega⟩
  .obtain rfl:k=4:=by omega
   have n:ar (bE w.heap.size w wr):=d;have h:ar (wr.rowIs w.heap.size 82 20 p):=g;have o:ar (wr.rowIs (w.heap.size+1) 82 20 (N6 4 0)):=b;have q:ar (wr.heap.size=w.heap.size+2):=m;clear d g b m
   go_wp2
   go_loopw [13] (λi c=>∃k:Nat,k<=4/\i=Y U k/\bE w.heap.size w c/\c.heap.size=w.heap.size+2/\(∃f,c.rowIs w.heap.size 82 20 f)/\c.rowIs (w.heap.size+1) 82 20 (N6 4 k)) λi _=>4 - (bT i).toNat
   case atStart=>exact⟨0,by omega,Z,n.out,q.out,⟨_,h.out⟩,o.out⟩
   case round =>
    clear n h o q;obtain⟨k,y,rfl,d,m,⟨p,g⟩,b⟩:=hrel
    by_cases v:k<4
    .have z:=b.cell (i:=11+k*2) Za;have B:=b.frozen;have n:ar (bE w.heap.size w wr):=d;have h:ar (wr.rowIs w.heap.size 82 20 p):=g;have o:ar (wr.rowIs (w.heap.size+1) 82 20 (N6 4 k)):=b;have q:ar (wr.heap.size=w.heap.size+2):=m;clear d g b m
     go_wp2
     refine⟨⟨k+1,by omega,by go_num,n.out.setCell Zc _,by rw[i6];exact q.out,⟨p,h.out.setOther Zc _⟩,(o.out.set _ _).congr λj u=>UI k j v⟩,by simp[bT];omega⟩
    .obtain rfl:k=4:=by omega
     have n:ar (bE w.heap.size w wr):=d;have h:ar (wr.rowIs w.heap.size 82 20 p):=g;have o:ar (wr.rowIs (w.heap.size+1) 82 20 (N6 4 4)):=b;clear d g b m;obtain⟨a,r⟩:∃a,a=(aO 20).map (N6 4 4):=⟨_,Z⟩;have C:ar (a=(aO 20).map (N6 4 4)):=r;have t:a.length=20:=by rw[r];rfl
     have E:ar (wr.rangeAt (w.heap.size+1) 0 a):=by
      have:=EP o.out (o:=0) (m:=20) Za;simp only[aE]at this;unfold ar;rw[r];exact this
     have H:ar (wr.there w.heap.size 0 a.toArray.size):=D5 h.out (by simp[t]);have x:ar ((V.info? 82).map (·.size)=J a.length):=by unfold ar;rw[t];kernel_rfl
     have I:ar ((V.info? 82).map (·.size)=J a.toArray.size):=by unfold ar;rw[aY,t];kernel_rfl
     have L:ar (a.toArray.all (·.oneCell')=true):=by unfold ar;rw[r];kernel_rfl
     have N:ar ((wr.setCells w.heap.size 0 a).rangeAt w.heap.size 0 a):=fy wr w.heap.size 0 a (by rw[t];exact D5 h.out Za);clear r t
     go_wp2_with (first|(refine fL Z 82 _ Z (w.heap.size+1) 0 Z a _ E.out jD Z x.out ?_)|(refine dV Z 82 _ _ Z w.heap.size 0 a.toArray Z Z H.out I.out L.out ?_))
     refine bodyPost_ret (v:=.agg a.toArray) (EZ Tryz.results29 _ w.heap.size a Z N.out jD Z x.out) Z ⟨by rw[C.out];rfl,p9 (af _) _ _ n.out⟩
theorem EV{w:Wd}(h:w.heap[a]?=J (.cells H.toArray b (0,0))):w.rangeAt a 0 H:=λj v c=>by
 rw[jC w a (0+j) H.toArray b (0,0) h];simpa using c
theorem c0V:(V.info? 71).map (λi=>(i.zero,i.size,i.bytes))=J (J (.agg #[Y U 0,Y U 0,Y U 0,Y U 0,Y U 0,Y U 0]),6,48):=by kernel_rfl
theorem Nb(n:Nat)(f:n<=32)(w:Wd):∃C:Array Vu,C.size=n*6/\(ic 66 (Y U n) (Y U n)).run V w=.ok (Sc (J (O w.heap.size 0 Q)) n n) (w.alloc (.cells C 71)):=by
 have a:=c0V
 cases b:V.info? 71 with
 | none=>rw[b]at a;cases a
 | some i =>
  rw[b]at a;simp only[aD,bm,cR]at a;let⟨c,d,e⟩:=a;have:=run_make (P:=V) w 66 71 i _ Tryz.underlying66 b c .i64 .i64 n n Za Za (by rw[e];omega) Za;rw[d]at this;exact⟨_,size_madeCells _ _,this⟩
theorem ZM(n:Nat)(E:n<=32)(a:List Vu)(c:a.length=6)(h:a.toArray.all (·.oneCell')=true){w:Wd} :
  aF V 27 #[Y U n,.agg a.toArray] w λe b=>e=.returned (Sc (J (O (w.heap.size+1) 0 Q)) n n)/\bE w.heap.size w b/\b.heap.size=w.heap.size+2/\b.rowIs (w.heap.size+1) 71 (n*6) (λj=>a.getD (j%6) (Bo false)):=by
 have m:ar (a.length=6):=c;have H:ar ((V.info? 71).map (·.size)=J a.length):=by unfold ar;rw[c];kernel_rfl
 have I:ar ((V.info? 71).map (·.size)=J a.toArray.size):=by unfold ar;rw[aY,c];kernel_rfl
 have L:ar (a.toArray.all (·.oneCell')=true):=h;let⟨C,o,N⟩:=Nb n E (w.alloc (.cells a.toArray 71));have p:(w.alloc (.cells a.toArray 71)).heap.size=w.heap.size+1:=by simp
 rw[p]at N;have P:ar (C.size=n*6):=o;clear c h o p
 go_enter Tryz.func27,Tryz.ntmps27
 go_wp2
 go_loopw [11] (λi b=>∃k:Nat,k<=n/\i=Y U k/\bE w.heap.size w b/\b.heap.size=w.heap.size+2/\b.heap[w.heap.size]?=J (.cells a.toArray 71 (0,0))/\∃f,b.rowIs (w.heap.size+1) 71 (n*6) f/\∀j,j<k*6->f j=a.getD (j%6) (Bo false)) λi _=>n - (bT i).toNat
 case atStart =>
  refine⟨0,by omega,Z,((bz _ _).alloc (af _) _).alloc Zc _,by simp,?_,(λj=>C.getD j (Bo false)),?_,λj d=>by omega⟩
  .rw[aJ _ _ _ Zc];exact cC w _
  .have:=xI w (.cells a.toArray 71) C 71;rw[P.out]at this;exact this
 case round =>
  obtain⟨k,T,rfl,q,r,t,f,u,v⟩:=hrel;have x:ar (bE w.heap.size w wr):=q;have y:ar (wr.heap.size=w.heap.size+2):=r;have z:ar (wr.heap[w.heap.size]?=J (.cells a.toArray 71 (0,0))):=t;have g:ar (wr.rowIs (w.heap.size+1) 71 (n*6) f):=u;have B:ar (∀j,j<k*6->f j=a.getD (j%6) (Bo false)):=v;clear q r t u v
  by_cases W:k<n
  .have R:ar (wr.rangeAt w.heap.size 0 a):=EV z.out;have S:ar (wr.there (w.heap.size+1) (k*6) a.toArray.size):=D5 g.out (by rw[aY,m.out];omega)
   go_wp2_with (first|(refine fL Z 71 _ Z w.heap.size 0 Z a _ R.out Tryz.underlying71 Z H.out ?_)|(refine dV Z 71 _ _ Z (w.heap.size+1) (k*6) a.toArray Z Z S.out I.out L.out ?_))
   refine⟨⟨k+1,by omega,by go_num,p9 Za _ _ x.out,by rw[l8];exact y.out,by rw[I3 Za];exact z.out,_,C4 _ _ g.out,λj d=>?_⟩,by simp[bT];omega⟩;have G:=m.out
   by_cases e:k*6<=j/\j<k*6+a.length
   .grind
   .rw[mY (by simpa using e)];exact B.out j Za
  .obtain rfl:k=n:=by omega
   go_wp2
   go_ret
   exact⟨Z,x.out,y.out,g.out.congr λj d=>B.out j d⟩
theorem c4x:(V.info? 82).map (λi=>(i.zero,i.size,i.bytes))=J (J (.agg #[Y U 0,Y U 0,Y U 0,Y U 0,Bo false,Y U 0,Bo false,Y U 0,Bo false,Y U 0,Bo false,Y U 0,Bo false,Y U 0,Bo false,Y U 0,Bo false,Y U 0,Bo false,Y U 0]),20,160):=by kernel_rfl
theorem Ka(n:Nat)(f:n<=32)(w:Wd):∃C:Array Vu,C.size=n*20/\(ic 72 (Y U n) (Y U n)).run V w=.ok (Sc (J (O w.heap.size 0 Q)) n n) (w.alloc (.cells C 82)):=by
 have a:=c4x
 cases b:V.info? 82 with
 | none=>rw[b]at a;cases a
 | some i =>
  rw[b]at a;simp only[aD,bm,cR]at a;let⟨c,d,e⟩:=a;have:=run_make (P:=V) w 72 82 i _ Tryz.underlying72 b c .i64 .i64 n n Za Za (by rw[e];omega) Za;rw[d]at this;exact⟨_,size_madeCells _ _,this⟩
theorem Zr(n:Nat)(E:n<=32)(a:List Vu)(c:a.length=20)(h:a.toArray.all (·.oneCell')=true){w:Wd} :
  aF V 28 #[Y U n,.agg a.toArray] w λe b=>e=.returned (Sc (J (O (w.heap.size+1) 0 Q)) n n)/\bE w.heap.size w b/\b.heap.size=w.heap.size+2/\b.rowIs (w.heap.size+1) 82 (n*20) (λj=>a.getD (j%20) (Bo false)):=by
 have m:ar (a.length=20):=c;have H:ar ((V.info? 82).map (·.size)=J a.length):=by unfold ar;rw[c];kernel_rfl
 have I:ar ((V.info? 82).map (·.size)=J a.toArray.size):=by unfold ar;rw[aY,c];kernel_rfl
 have L:ar (a.toArray.all (·.oneCell')=true):=h;let⟨C,o,N⟩:=Ka n E (w.alloc (.cells a.toArray 82));have p:(w.alloc (.cells a.toArray 82)).heap.size=w.heap.size+1:=by simp
 rw[p]at N;have P:ar (C.size=n*20):=o;clear c h o p
 go_enter Tryz.func28,Tryz.ntmps28
 go_wp2
 go_loopw [11] (λi b=>∃k:Nat,k<=n/\i=Y U k/\bE w.heap.size w b/\b.heap.size=w.heap.size+2/\b.heap[w.heap.size]?=J (.cells a.toArray 82 (0,0))/\∃f,b.rowIs (w.heap.size+1) 82 (n*20) f/\∀j,j<k*20->f j=a.getD (j%20) (Bo false)) λi _=>n - (bT i).toNat
 case atStart =>
  refine⟨0,by omega,Z,((bz _ _).alloc (af _) _).alloc Zc _,by simp,?_,(λj=>C.getD j (Bo false)),?_,λj d=>by omega⟩
  .rw[aJ _ _ _ Zc];exact cC w _
  .have:=xI w (.cells a.toArray 82) C 82;rw[P.out]at this;exact this
 case round =>
  obtain⟨k,T,rfl,q,r,t,f,u,v⟩:=hrel;have x:ar (bE w.heap.size w wr):=q;have y:ar (wr.heap.size=w.heap.size+2):=r;have z:ar (wr.heap[w.heap.size]?=J (.cells a.toArray 82 (0,0))):=t;have g:ar (wr.rowIs (w.heap.size+1) 82 (n*20) f):=u;have B:ar (∀j,j<k*20->f j=a.getD (j%20) (Bo false)):=v;clear q r t u v
  by_cases W:k<n
  .have R:ar (wr.rangeAt w.heap.size 0 a):=EV z.out;have S:ar (wr.there (w.heap.size+1) (k*20) a.toArray.size):=D5 g.out (by rw[aY,m.out];omega)
   go_wp2_with (first|(refine fL Z 82 _ Z w.heap.size 0 Z a _ R.out jD Z H.out ?_)|(refine dV Z 82 _ _ Z (w.heap.size+1) (k*20) a.toArray Z Z S.out I.out L.out ?_))
   refine⟨⟨k+1,by omega,by go_num,p9 Za _ _ x.out,by rw[l8];exact y.out,by rw[I3 Za];exact z.out,_,C4 _ _ g.out,λj d=>?_⟩,by simp[bT];omega⟩;have G:=m.out
   by_cases e:k*20<=j/\j<k*20+a.length
   .grind
   .rw[mY (by simpa using e)];exact B.out j Za
  .obtain rfl:k=n:=by omega
   go_wp2
   go_ret
   exact⟨Z,x.out,y.out,g.out.congr λj d=>B.out j d⟩
theorem UF:(V.info? 87).map (λi=>(i.zero,i.size,i.bytes))=J (J (.agg #[Y U 0,Y U 0,Y U 0,Y U 0,Y U 0]),5,40):=by kernel_rfl
theorem MK(n:Nat)(f:n<=32)(w:Wd):∃C:Array Vu,C.size=n*5/\(ic 83 (Y U n) (Y U n)).run V w=.ok (Sc (J (O w.heap.size 0 Q)) n n) (w.alloc (.cells C 87)):=by
 have a:=UF
 cases b:V.info? 87 with
 | none=>rw[b]at a;cases a
 | some i =>
  rw[b]at a;simp only[aD,bm,cR]at a;let⟨c,d,e⟩:=a;have:=run_make (P:=V) w 83 87 i _ Tryz.underlying83 b c .i64 .i64 n n Za Za (by rw[e];omega) Za;rw[d]at this;exact⟨_,size_madeCells _ _,this⟩
theorem YW(n:Nat)(E:n<=32)(a:List Vu)(c:a.length=5)(h:a.toArray.all (·.oneCell')=true){w:Wd} :
  aF V 30 #[Y U n,.agg a.toArray] w λe b=>e=.returned (Sc (J (O (w.heap.size+1) 0 Q)) n n)/\bE w.heap.size w b/\b.heap.size=w.heap.size+2/\b.rowIs (w.heap.size+1) 87 (n*5) (λj=>a.getD (j%5) (Bo false)):=by
 have m:ar (a.length=5):=c;have H:ar ((V.info? 87).map (·.size)=J a.length):=by unfold ar;rw[c];kernel_rfl
 have I:ar ((V.info? 87).map (·.size)=J a.toArray.size):=by unfold ar;rw[aY,c];kernel_rfl
 have L:ar (a.toArray.all (·.oneCell')=true):=h;let⟨C,o,N⟩:=MK n E (w.alloc (.cells a.toArray 87));have p:(w.alloc (.cells a.toArray 87)).heap.size=w.heap.size+1:=by simp
 rw[p]at N;have P:ar (C.size=n*5):=o;clear c h o p
 go_enter Tryz.func30,Tryz.ntmps30
 go_wp2
 go_loopw [11] (λi b=>∃k:Nat,k<=n/\i=Y U k/\bE w.heap.size w b/\b.heap.size=w.heap.size+2/\b.heap[w.heap.size]?=J (.cells a.toArray 87 (0,0))/\∃f,b.rowIs (w.heap.size+1) 87 (n*5) f/\∀j,j<k*5->f j=a.getD (j%5) (Bo false)) λi _=>n - (bT i).toNat
 case atStart =>
  refine⟨0,by omega,Z,((bz _ _).alloc (af _) _).alloc Zc _,by simp,?_,(λj=>C.getD j (Bo false)),?_,λj d=>by omega⟩
  .rw[aJ _ _ _ Zc];exact cC w _
  .have:=xI w (.cells a.toArray 87) C 87;rw[P.out]at this;exact this
 case round =>
  obtain⟨k,T,rfl,q,r,t,f,u,v⟩:=hrel;have x:ar (bE w.heap.size w wr):=q;have y:ar (wr.heap.size=w.heap.size+2):=r;have z:ar (wr.heap[w.heap.size]?=J (.cells a.toArray 87 (0,0))):=t;have g:ar (wr.rowIs (w.heap.size+1) 87 (n*5) f):=u;have B:ar (∀j,j<k*5->f j=a.getD (j%5) (Bo false)):=v;clear q r t u v
  by_cases W:k<n
  .have R:ar (wr.rangeAt w.heap.size 0 a):=EV z.out;have S:ar (wr.there (w.heap.size+1) (k*5) a.toArray.size):=D5 g.out (by rw[aY,m.out];omega)
   go_wp2_with (first|(refine fL Z 87 _ Z w.heap.size 0 Z a _ R.out Tryz.underlying87 Z H.out ?_)|(refine dV Z 87 _ _ Z (w.heap.size+1) (k*5) a.toArray Z Z S.out I.out L.out ?_))
   refine⟨⟨k+1,by omega,by go_num,p9 Za _ _ x.out,by rw[l8];exact y.out,by rw[I3 Za];exact z.out,_,C4 _ _ g.out,λj d=>?_⟩,by simp[bT];omega⟩;have G:=m.out
   by_cases e:k*5<=j/\j<k*5+a.length
   .grind
   .rw[mY (by simpa using e)];exact B.out j Za
  .obtain rfl:k=n:=by omega
   go_wp2
   go_ret
   exact⟨Z,x.out,y.out,g.out.congr λj d=>B.out j d⟩
theorem Qn{w:Wd}{l F A D g k:Nat}(m:w.heap[l]?=J (.cells #[Sc (J (O F 0 Q)) e e,Sc (J (O A 0 Q)) g g,Sc (J (O D 0 Q)) k k] a (0,0)))(p:w.rowIs F b (e*6) λj=>([Y U 0,Y U (-1),Y U 0,Y U 0,Y U 0,Y U 0]:List Vu).getD (j%6) (Bo false))(n:w.rowIs A c (g*20) λj=>sq.getD (j%20) (Bo false))(q:w.rowIs D d (k*5) λj=>([Y U (-1),Y U 0,Y U 0,Y U 0,Y U 0]:List Vu).getD (j%5) (Bo false))(u:l≠F)(v:l≠A)(x:l≠D)(y:F≠A)(z:F≠D)(B:A≠D)(hF:e<=32)(C:g<=6)(E:k<=4):js w l F A D (rp e g k):=by
 have H:l<w.heap.size:=(Zj m).1;refine⟨?_,?_,?_,?_,?_,?_,?_,p.frozen,n.frozen,q.frozen,H,p.lt,n.lt,q.lt,u,v,x,y,z,B,hF,C,E⟩
 .rw[jC w l 0 _ _ _ m];rfl
 .rw[jC w l 1 _ _ _ m];rfl
 .rw[jC w l 2 _ _ _ m];rfl
 .intro i f h r;have t:i<e:=h;rw[p.cell Za,show(i*6+f)%6=f by omega];obtain rfl|rfl|rfl|rfl|rfl|rfl:f=0\/f=1\/f=2\/f=3\/f=4\/f=5:=by omega
  all_goals rfl
 .intro i f h r o;have t:i<g:=h;rw[n.cell Za,show(i*20+f)%20=f by omega];obtain rfl|rfl|rfl|rfl|rfl|rfl|rfl|rfl|rfl|rfl|rfl|rfl:f=0\/f=1\/f=2\/f=3\/f=5\/f=7\/f=9\/f=11\/f=13\/f=15\/f=17\/f=19:=by unfold oV at o;omega
  all_goals rfl
 .intro i f h o;have t:i<g:=h;have r:f<20:=by unfold oV at o;omega
  rw[n.cell Za,show(i*20+f)%20=f by omega];obtain rfl|rfl|rfl|rfl|rfl|rfl|rfl|rfl:f=4\/f=6\/f=8\/f=10\/f=12\/f=14\/f=16\/f=18:=by unfold oV at o;omega
  all_goals rfl
 .intro i f h r;have t:i<k:=h;rw[q.cell Za,show(i*5+f)%5=f by omega];obtain rfl|rfl|rfl|rfl|rfl:f=0\/f=1\/f=2\/f=3\/f=4:=by omega
  all_goals rfl
theorem UJ{w:Wd}{l F A D:Nat}{K:aa}(R:js w l F A D K){i:Nat}(a b:Int)(d:m=i)(f:i<K.nF) :
  aF V 31 #[Po (J (O l 0 Q)),Y U m,Y U a,Y U b] w λe c=>e=.returned (.tuple #[])/\js c l F A D (K.an i a b)/\dT F A D w c:=by
 subst d;exact Y8 R a b f
theorem RR(a b c:Nat)(h1:2<=a)(p:a<=32)(h3:1<=b)(q:b<=6)(y:c<=4)(w:Wd) :
  aF V 12 #[.agg #[Y U a,Y U b,Y U c]] w λe f=>∃l F A D,e=.returned (.tuple #[Po (J (O l 0 Q)),Y U 0])/\js f l F A D (K6 a b c)/\bE w.heap.size w f/\w.heap.size<=l/\w.heap.size<=F/\w.heap.size<=A/\w.heap.size<=D:=by
 have e1:G5 a 2 32=true:=by unfold G5;simp;omega
 have e2:G5 b 1 6=true:=by unfold G5;simp;omega
 have e3:G5 c 0 4=true:=by unfold G5;simp;omega
 go_enter jW,lE
 go_wp2_with fail
 refine(W6).mono ?_;rintro e j ⟨rfl,rfl⟩
 go_wp2_with fail
 refine(W6).mono ?_;rintro e j ⟨rfl,rfl⟩
 go_wp2_with fail
 refine(W6).mono ?_;rintro e j ⟨rfl,rfl⟩
 go_wp2_with fail
 go_region_held3 (λf=>f.cell? (O w.heap.size 0 Q)=J (Y U a)/\f.cell? (O w.heap.size 1 Q)=J (Y U b)/\f.cell? (O w.heap.size 2 Q)=J (Y U c)) (go_keep)
  (first|(go_at_call 27;go_must (refine(ZM a p [Y U 0,Y U (-1),Y U 0,Y U 0,Y U 0,Y U 0] Z Zd).mono ?_);rintro e j ⟨rfl,b1,z1,r1⟩;go_must (have z:=λo=>b1.cell (p:=(O w.heap.size o Q)) Zc))|(go_at_call 29;refine(Pp _).mono ?_;rintro e d ⟨rfl,b2⟩;have B:=λo=>b2.cell (p:=(O w.heap.size o Q)) (by rw[z1];simp;omega);have i:=b2.size)|(go_at_call 28;refine(Zr b Za sq Q9 Jc).mono ?_;rintro e C ⟨rfl,b3,z3,r3⟩;have E:=λo=>b3.cell (p:=(O w.heap.size o Q)) (by rw[z1]at i;simp at i;show w.heap.size<_;omega))|(go_at_call 30;refine(YW c Za [Y U (-1),Y U 0,Y U 0,Y U 0,Y U 0] Z Zd).mono ?_;rintro e g ⟨rfl,b4,z4,r4⟩;have H:=λo=>b4.cell (p:=(O w.heap.size o Q)) (by rw[z1]at i;simp at i;show w.heap.size<_;omega)))
 have I:j.heap.size=w.heap.size+3:=by rw[z1];show(w.alloc _).heap.size+2=_;simp
 have r:w.heap.size+3<=d.heap.size:=by omega
 have k:=r1;rw[show((w.alloc (.cells #[Y U a,Y U b,Y U c] 23)).drew.heap.size+1)=w.heap.size+2 from by show(w.alloc _).heap.size+1=_;simp]at k;have t:=((k.of_block (b2.block _ Za)).of_block (b3.block _ Za)).of_block (b4.block _ Za);have u:=r3.of_block (b4.block _ Za);have L:ar (bE w.heap.size w g):=by
  have b0:bE w.heap.size w (w.alloc (.cells #[Y U a,Y U b,Y U c] 23)).drew:=((bz _ _).alloc (af _) _).drew;exact(((b0.trans (b1.mono (by show _<=(w.alloc _).heap.size;simp))).trans (b2.mono Za)).trans (b3.mono Za)).trans (b4.mono Za)
 have v:g.heap.size=d.heap.size+2+2:=by omega
 have m:=r4;rw[show C.heap.size+1=d.heap.size+2+1 by omega]at m;have n:=cC g (.cells #[Sc (J (O (w.heap.size+1+1) 0 Q)) a a,Sc (J (O (d.heap.size+1) 0 Q)) b b,Sc (J (O (d.heap.size+2+1) 0 Q)) c c] 99);rw[v]at n;have N:ar (js (g.alloc (.cells #[Sc (J (O (w.heap.size+1+1) 0 Q)) a a,Sc (J (O (d.heap.size+1) 0 Q)) b b,Sc (J (O (d.heap.size+2+1) 0 Q)) c c] 99)) (d.heap.size+2+2) (w.heap.size+1+1) (d.heap.size+1) (d.heap.size+2+1) (rp a b c)) :=
  Qn n (t.alloc _) (u.alloc _) (m.alloc _) Za Za Za Za Za Za p q y
 have P:ar (bE w.heap.size w (g.alloc (.cells #[Sc (J (O (w.heap.size+1+1) 0 Q)) a a,Sc (J (O (d.heap.size+1) 0 Q)) b b,Sc (J (O (d.heap.size+2+1) 0 Q)) c c] 99))):=L.out.alloc Za _;have R:ar (w.heap.size+1+1<g.heap.size):=by unfold ar;omega
 have S:ar (w.heap.size+3<=d.heap.size):=r;clear b1 z1 r1 z b2 B i b3 z3 r3 E b4 z4 r4 H I r k t u v m n
 go_wp2_with fail
 refine(UJ (i:=0) N.out 1 0 Z (show 0<a by omega)).mono ?_;rintro e w5 ⟨rfl,R5,k5⟩;have s0:0<((rp a b c).an 0 1 0).nS:=by show 0<b;omega
 have s1:((rp a b c).an 0 1 0).nS<=6:=q;have p1:=R5.k1;have T:=R5.sk s0;have W:=R5.st s0;simp only[jY,aE]at T W;have p4:=R5.zs;have G:ar _:=R5;have M:ar _:=k5;clear R5 k5;generalize x:(rp a b c).an 0 1 0=X at *;have a':ar (_=X):=x;clear x
 go_wp2
 go_ret2
 have h:=S.out;have h':=R.out;refine⟨d.heap.size+2+2,w.heap.size+1+1,d.heap.size+1,d.heap.size+2+1,Z,?_,?_,?_,?_,?_,?_⟩
 .unfold K6;rw[a'.out];exact(G.out.cf (c:=0) s0 Za Aw Z 2).cf (c:=2) s0 Za Fu Z 0
 .exact((P.out.trans (M.out.below (by simp;omega) Za Za Za)).setCell (by show w.heap.size<=d.heap.size+1;omega) _).setCell (by show w.heap.size<=d.heap.size+1;omega) _
 all_goals omega
theorem y9{K:aa}{t:Int}(h:C8 K t m=true)(a:t≠0):∃n:Nat,m=n/\(n:Int)<j4 K t:=by
 unfold C8 at h;simp[a]at h;exact⟨m.toNat,by omega,by omega⟩
def IA(n:Int):Prop:=n=2\/n=13\/n=16\/n=17\/n=18\/n=19
theorem c9T(R:js w l F A D K)(G:Good K)(r p a b c:Int)(v:IA p)(s n:Nat)(x:r=s)(e:p=n)(f:s<K.nS)(y:C8 K ((i7 n).getD 0 0) a=true/\C8 K ((i7 n).getD 1 0) b=true/\C8 K ((i7 n).getD 2 0) c=true) :
  aF V 36 #[Po (J (O l 0 Q)),Y U r,Y U p,.agg #[Y U a,Y U b,Y U c]] w (Ends l F A D w (tr K s n a b c)):=by
 let⟨g,i,q⟩:=y;subst x;rcases v with h|h|h|h|h|h
 .obtain rfl:n=2:=by omega
  subst e;obtain⟨j,rfl,k⟩:=y9 (t:=4) g Zb;obtain⟨m,rfl,o⟩:=y9 (t:=1) i Zb;exact VH R c f (by have d:j4 K 4=4:=Z;omega) (by have d:j4 K 1=K.nF:=Z;omega)
 .obtain rfl:n=13:=by omega
  subst e;obtain⟨j,rfl,k⟩:=y9 (t:=3) g Zb;obtain⟨m,rfl,o⟩:=y9 (t:=1) i Zb;obtain⟨t,rfl,u⟩:=y9 (t:=5) q Zb;exact Uf R G f (by have d:j4 K 3=K.nD:=Z;omega) (by have d:j4 K 1=K.nF:=Z;omega) (by have d:j4 K 5=4:=Z;omega)
 .obtain rfl:n=16:=by omega
  subst e;obtain⟨j,rfl,k⟩:=y9 (t:=5) g Zb;obtain⟨m,rfl,o⟩:=y9 (t:=4) i Zb;obtain⟨t,rfl,u⟩:=y9 (t:=6) q Zb;exact RJ R G f (by have d:j4 K 5=4:=Z;omega) (by have d:j4 K 4=4:=Z;omega) (by have d:j4 K 6=4:=Z;omega)
 .obtain rfl:n=17:=by omega
  subst e;obtain⟨j,rfl,k⟩:=y9 (t:=5) g Zb;obtain⟨m,rfl,o⟩:=y9 (t:=4) i Zb;obtain⟨t,rfl,u⟩:=y9 (t:=6) q Zb;exact WL R G f (by have d:j4 K 5=4:=Z;omega) (by have d:j4 K 4=4:=Z;omega) (by have d:j4 K 6=4:=Z;omega)
 .obtain rfl:n=18:=by omega
  subst e;obtain⟨j,rfl,k⟩:=y9 (t:=4) g Zb;obtain⟨m,rfl,o⟩:=y9 (t:=6) i Zb;exact Uv R G c f (by have d:j4 K 4=4:=Z;omega) (by have d:j4 K 6=4:=Z;omega)
 .obtain rfl:n=19:=by omega
  subst e;obtain⟨j,rfl,k⟩:=y9 (t:=4) g Zb;obtain⟨m,rfl,o⟩:=y9 (t:=6) i Zb;exact UH R G c f (by have d:j4 K 4=4:=Z;omega) (by have d:j4 K 6=4:=Z;omega)
theorem Db(R:js w l F A D K){s:Nat}(b:a<K.nS) :
  aF V 98 #[Po (J (O l 0 Q)),Y U s,Y U a] w λe g=>e=.returned (Bo (K.oa s a))/\g=w:=by
 have d:ar (js w l F A D K):=R;have i:=R.k1;have j:=R.hS;have k:=R.sk b;clear R
 by_cases f:K.S a 1=s
 .have c:(K.S a 1==(s:Int))=true:=by simpa using f
  have E:ar (K.oa s a=(K.S a 0==1)):=by unfold aa.oa ar;rw[c];simp
  go_enter Tryz.func98,Tryz.ntmps98
  go_wp2_with fail
  refine(Z1 d.out s b).mono ?_;rintro e h ⟨rfl,rfl⟩
  go_wp2
  go_ret
  rw[E.out];exact⟨Z,Z⟩
 .have c:(K.S a 1==(s:Int))=false:=by simpa using f
  have E:ar (K.oa s a=false):=by unfold aa.oa ar;rw[c];simp
  go_enter Tryz.func98,Tryz.ntmps98
  go_wp2_with fail
  refine(Z1 d.out s b).mono ?_;rintro e h ⟨rfl,rfl⟩
  go_wp2
  go_ret
  rw[E.out];exact⟨Z,Z⟩
theorem Y0(R:js w l F A D K){s:Nat}(c:a<K.nS) :
  aF V 104 #[Po (J (O l 0 Q)),Y U s,Y U a] w λe j=>e=.returned (Bo (K.still s a))/\j=w:=by
 have g:ar (js w l F A D K):=R;have k:=R.k1;have m:=R.hS;have n:=R.sk c;clear R
 by_cases b:K.S a 1=s
 .have d:(K.S a 1==(s:Int))=true:=by simpa using b
  by_cases f:K.S a 0=1
  .have h:(K.S a 0==1)=true:=by simpa using f
   have E:ar (K.still s a=true):=by unfold aa.still ar;rw[d,h];simp
   clear b f
   go_enter kV,kx
   go_wp2_with fail
   refine(Z1 g.out s c).mono ?_;rintro e i ⟨rfl,rfl⟩
   go_wp2
   go_ret
   rw[E.out];exact⟨Z,Z⟩
  .have h:(K.S a 0==1)=false:=by simpa using f
   have E:ar (K.still s a=(K.S a 0==3)):=by unfold aa.still ar;rw[d,h];simp
   clear b f
   go_enter kV,kx
   go_wp2_with fail
   refine(Z1 g.out s c).mono ?_;rintro e i ⟨rfl,rfl⟩
   go_wp2
   go_ret
   rw[E.out];exact⟨Z,Z⟩
 .have d:(K.S a 1==(s:Int))=false:=by simpa using b
  have E:ar (K.still s a=false):=by unfold aa.still ar;rw[d];simp
  clear b
  go_enter kV,kx
  go_wp2_with fail
  refine(Z1 g.out s c).mono ?_;rintro e i ⟨rfl,rfl⟩
  go_wp2
  go_ret
  rw[E.out];exact⟨Z,Z⟩
theorem PE(R:js w l F A D K){s:Nat}(c:s<K.nS)(d:a<4)(f:K.dy s a=b)(j:b<K.nF) :
  aF V 97 #[Po (J (O l 0 Q)),Y U s,Y U a] w λe g=>e=.returned (.tuple #[])/\js g l F A D (K.nN s a)/\dT F A D w g:=by
 have E:ar (K.nN s a=(K.an b 0 (-1)).g9 s a (-1) false):=by unfold aa.nN ar;rw[f,au]
 have k:ar (js w l F A D K):=R;have p:=R.k1;have q:=R.hS;have m:=R.pf c d;have r:=R.hF;have h:K.S s (3+a*2)=b:=f;rw[h]at m;clear R f h
 go_enter Tryz.func97,Tryz.ntmps97
 go_wp2_with fail
 refine(Y8 k.out 0 (-1) j).mono ?_;rintro e t ⟨rfl,R1,q1⟩;have u:=R1.k1;have v:=R1.pf c d;have x:=R1.pw c d;have y:=R1.zs;have i:s<(K.an b 0 (-1)).nS:=c;have z:=R1.hS;have n:ar _:=R1;have o:ar _:=q1;clear R1 q1;generalize K.an b 0 (-1)=B at *
 go_wp2
 go_end0
 refine⟨Z,?_,((o.out.cf _ _).cf _ _)⟩;rw[E.out];exact(n.out.cf i Za (CY a) Za _).oB i (Ao a d) Za _
theorem QW(R:js w l F A D K)(G:Good K){s:Nat}(y z:Int)(c:s<K.nS)(d:a<4) :
  aF V 61 #[Po (J (O l 0 Q)),Y U s,.agg #[Y U a,Y U y,Y U z]] w (Ends l F A D w (N4 K s a)):=by
 have f:ar (js w l F A D K):=R;clear R
 by_cases b:K.dy s a=-1
 .have k:(K.S s (3+a*2) != -1)=false:=by simpa[aa.dy] using b
  have E:ar (N4 K s a=⟨K,0,6⟩):=by unfold N4;simp[b,ar]
  clear b
  go_enter Tryz.func61,Tryz.ntmps61
  go_wp2_with fail
  refine(p8 (f.out.alloc _) c d).mono ?_;rintro e i ⟨rfl,rfl⟩
  go_wp2
  go_ret2
  exact Ends.mk E (f.out.alloc _) ((dT.refl w).alloc _)
 .have k:(K.S s (3+a*2) != -1)=true:=by simpa[aa.dy] using b
  obtain⟨g,j⟩:∃g:Nat,K.dy s a=g:=by rcases G.dy s a c d with h|h;exact absurd h b;exact⟨(K.dy s a).toNat,by omega⟩
  have m:g<K.nF:=by rcases G.dy s a c d with h|h;exact absurd h b;omega
  have E:ar (N4 K s a=⟨K.nN s a,0,0⟩):=by unfold N4;simp[b,ar]
  have n:ar (K.dy s a=g):=j;clear b j
  go_enter Tryz.func61,Tryz.ntmps61
  go_wp2_with fail
  refine(p8 (f.out.alloc _) c d).mono ?_;rintro e i ⟨rfl,rfl⟩
  go_wp2_with fail
  refine(PE (f.out.alloc _) c d n.out m).mono ?_;rintro e i ⟨rfl,R1,q1⟩
  go_wp2
  go_ret2
  exact Ends.mk E R1 (((dT.refl w).alloc _).trans q1)
theorem QZ(R:js w l F A D K){s:Nat}(y z:Int)(d:s<K.nS)(f:a<4) :
  aF V 62 #[Po (J (O l 0 Q)),Y U s,.agg #[Y U a,Y U y,Y U z]] w (Ends l F A D w (B3 K s a y)):=by
 have b:ar (js w l F A D K):=R;have i:=R.hS;have j:=λo=>(b.out.alloc o).k1;have k:=λo=>(b.out.alloc o).pw d f;have m:=λo=>(b.out.alloc o).zs;clear R
 by_cases c:K.dy s a=-1
 .have g:(K.S s (3+a*2) != -1)=false:=by simpa[aa.dy] using c
  have E:ar (B3 K s a y=⟨K,0,6⟩):=by unfold B3;simp[c,ar]
  clear c
  go_enter Tryz.func62,Tryz.ntmps62
  go_wp2_with fail
  refine(p8 (b.out.alloc _) d f).mono ?_;rintro e h ⟨rfl,rfl⟩
  go_wp2
  go_ret2
  exact Ends.mk E (b.out.alloc _) ((dT.refl w).alloc _)
 .have g:(K.S s (3+a*2) != -1)=true:=by simpa[aa.dy] using c
  have E:ar (B3 K s a y=⟨K.oB s (4+a*2) (y != 0),0,0⟩):=by unfold B3;simp[c,ar]
  clear c
  go_enter Tryz.func62,Tryz.ntmps62
  go_wp2_with fail
  refine(p8 (b.out.alloc _) d f).mono ?_;rintro e h ⟨rfl,rfl⟩
  go_wp2
  all_goals(try go_region)
  all_goals(try go_wp2)
  all_goals
   go_ret2
   exact Ends.mk E ((b.out.alloc _).drew.oB d (Ao a f) Za _) ((((dT.refl w).alloc _).drew).cf _ _)
theorem c2C(R:js w l F A D K){s:Nat}(y z:Int)(h:s<K.nS)(c:a<K.nS) :
  aF V 66 #[Po (J (O l 0 Q)),Y U s,.agg #[Y U a,Y U y,Y U z]] w (Ends l F A D w (Q8 K s a)):=by
 have b:ar (js w l F A D K):=R;have i:=R.hS;have j:=λo=>(b.out.alloc o).k1;have k:=λo=>(b.out.alloc o).sk c;have m:=λo=>(b.out.alloc o).zs;clear R
 by_cases d:K.oa s a=true
 .have E:ar (Q8 K s a=⟨K.cf a 0 2,0,0⟩):=by unfold Q8;simp[d,ar]
  go_enter Tryz.func66,Tryz.ntmps66
  go_wp2_with fail
  refine(Db (b.out.alloc _) c).mono ?_;rintro e f ⟨rfl,rfl⟩
  go_wp2
  go_ret2
  exact Ends.mk E ((b.out.alloc _).cf c Za Aw Z _) (((dT.refl w).alloc _).cf _ _)
 .have g:K.oa s a=false:=by simpa using d
  have E:ar (Q8 K s a=⟨K,0,7⟩):=by unfold Q8;simp[g,ar]
  clear d
  go_enter Tryz.func66,Tryz.ntmps66
  go_wp2_with fail
  refine(Db (b.out.alloc _) c).mono ?_;rintro e f ⟨rfl,rfl⟩
  go_wp2
  go_ret2
  exact Ends.mk E (b.out.alloc _) ((dT.refl w).alloc _)
theorem c2z(R:js w l F A D K){s:Nat}(z:Int)(u:s<K.nS)(g:a<K.nS)(h:b<K.nF) :
  aF V 63 #[Po (J (O l 0 Q)),Y U s,.agg #[Y U a,Y U b,Y U z]] w (Ends l F A D w (G0 K s a b)):=by
 have d:ar (js w l F A D K):=R;have v:=R.hS;have x:=R.hF;have y:=λo=>(d.out.alloc o).k1;have B:=λo=>(d.out.alloc o).sk g;clear R
 by_cases c:K.S a 0=0
 .have k:(K.S a 0 != 0)=false:=by simpa using c
  by_cases f:K.F b 0=0
  .have m:(K.F b 0==0)=true:=by simpa using f
   have E:ar (G0 K s a b=⟨(((K.an b 1 a).cf a 0 1).cf a 1 s).cf a 2 b,0,0⟩):=by unfold G0;simp[c,f,ar]
   clear c f
   go_enter lI,kL
   go_wp2
   go_quiet (fail)
   go_wp2_with fail
   refine(zj ((d.out.alloc _).drewN _) h).mono ?_;rintro e j ⟨rfl,rfl⟩
   go_wp2_with fail
   refine(Y8 ((d.out.alloc _).drewN _) 1 _ h).mono ?_;rintro e j ⟨rfl,R1,q1⟩;have C:=R1.k1;have H:=R1.sk g;have I:=R1.sp g;have L:=R1.st g;have N:=R1.zs;have i:a<(K.an b 1 a).nS:=g;have n1:=R1.ks;have n2:A≠l:=λe=>n1 e.symm;have P:=R1.hS;have n:ar _:=R1;have p:ar _:=q1;clear R1 q1;generalize K.an b 1 a=S at *
   go_wp2
   go_ret2
   have q:=n.out.cf (c:=0) (o:=a*20) i Za Aw Z 1;have r:=q.cf (c:=1) (o:=a*20+1) i Za FA Z s;have t:=r.cf (c:=2) (o:=a*20+2) i Za Fu Z b;exact Ends.mk E t (((((((dT.refl w).alloc _).drewN _).trans p.out).cf _ _).cf _ _).cf _ _)
  .have m:(K.F b 0==0)=false:=by simpa using f
   have E:ar (G0 K s a b=⟨K,0,5⟩):=by unfold G0;simp[c,f,ar]
   clear c f
   go_enter lI,kL
   go_wp2
   go_quiet (fail)
   go_wp2_with fail
   refine(zj ((d.out.alloc _).drewN _) h).mono ?_;rintro e j ⟨rfl,rfl⟩
   go_wp2
   go_ret2
   exact Ends.mk E ((d.out.alloc _).drewN _) (((dT.refl w).alloc _).drewN _)
 .have k:(K.S a 0 != 0)=true:=by simpa using c
  have E:ar (G0 K s a b=⟨K,0,7⟩):=by unfold G0;simp[c,ar]
  clear c
  go_enter lI,kL
  go_wp2
  go_quiet (fail)
  go_wp2
  go_ret2
  exact Ends.mk E ((d.out.alloc _).drewN _) (((dT.refl w).alloc _).drewN _)
theorem Ta(R:js w l F A D K)(G:Good K){s:Nat}(z:Int)(r:s<K.nS)(f:a<K.nS)(i:b<4) :
  aF V 68 #[Po (J (O l 0 Q)),Y U s,.agg #[Y U a,Y U b,Y U z]] w (Ends l F A D w (X0 K s a b)):=by
 have d:ar (js w l F A D K):=R;clear R
 go_enter Tryz.func68,Tryz.ntmps68
 go_wp2
 go_quiet (fail)
 go_wp2_with fail
 refine(Y0 ((d.out.alloc _).drewN _) f).mono ?_;rintro e j ⟨rfl,rfl⟩
 by_cases h:K.still s a=true
 case neg =>
  have m:K.still s a=false:=by simpa using h
  have E:ar (X0 K s a b=⟨K,0,7⟩):=by unfold X0;simp[m,ar]
  clear h
  go_wp2
  go_ret2
  exact Ends.mk E ((d.out.alloc _).drewN _) (((dT.refl w).alloc _).drewN _)
 go_wp2_with fail
 refine(p8 ((d.out.alloc _).drewN _) f i).mono ?_;rintro e j ⟨rfl,rfl⟩
 by_cases c:K.dy a b=-1
 case pos =>
  have n:(K.S a (3+b*2) != -1)=false:=by simpa[aa.dy] using c
  have E:ar (X0 K s a b=⟨K,0,6⟩):=by unfold X0;simp[h,c,ar]
  clear c
  go_wp2
  go_ret2
  exact Ends.mk E ((d.out.alloc _).drewN _) (((dT.refl w).alloc _).drewN _)
 have n:(K.S a (3+b*2) != -1)=true:=by simpa[aa.dy] using c
 have o:=(G.dy a b f i).resolve_left c;obtain⟨g,k⟩:∃g:Nat,K.dy a b=g:=⟨(K.dy a b).toNat,by omega⟩;have p:g<K.nF:=by omega
 have E:ar (X0 K s a b=⟨K.nN a b,0,0⟩):=by unfold X0;simp[h,c,ar]
 have q:ar (K.dy a b=g):=k;clear c k o
 go_wp2_with fail
 refine(PE ((d.out.alloc _).drewN _) f i q.out p).mono ?_;rintro e j ⟨rfl,R1,q1⟩
 go_wp2
 go_ret2
 exact Ends.mk E R1 ((((dT.refl w).alloc _).drewN _).trans q1)
theorem TF(R:js w l F A D K)(G:Good K){s:Nat}(z:Int)(f:s<K.nS)(i:a<4)(m:b<4) :
  aF V 72 #[Po (J (O l 0 Q)),Y U s,.agg #[Y U a,Y U b,Y U z]] w (Ends l F A D w (pZ K s a b)):=by
 have c:ar (js w l F A D K):=R;have B:=R.hS;have C:=λo=>(c.out.alloc o).k1;clear R
 go_enter Tryz.func72,Tryz.ntmps72
 go_wp2
 go_quiet (fail)
 go_wp2_with fail
 refine(J1 ((c.out.alloc _).drewN _) f i).mono ?_;rintro e n ⟨rfl,rfl⟩
 by_cases g:K.file s a=-1
 case pos =>
  have p:(K.S s (11+a*2) != -1)=false:=by simpa[aa.file] using g
  have E:ar (pZ K s a b=⟨K,0,8⟩):=by unfold pZ;simp[g,ar]
  clear g
  go_wp2
  go_ret2
  exact Ends.mk E ((c.out.alloc _).drewN _) (((dT.refl w).alloc _).drewN _)
 have p:(K.S s (11+a*2) != -1)=true:=by simpa[aa.file] using g
 have r:ar (¬K.file s a=-1):=g;clear g
 go_wp2_with fail
 refine(J1 ((c.out.alloc _).drewN _) f m).mono ?_;rintro e n ⟨rfl,rfl⟩
 by_cases h:K.file s b=-1
 case neg =>
  have t:(K.S s (11+b*2) != -1)=true:=by simpa[aa.file] using h
  have E:ar (pZ K s a b=⟨K,0,8⟩):=by unfold pZ;simp[h,ar]
  clear h
  go_wp2
  go_ret2
  exact Ends.mk E ((c.out.alloc _).drewN _) (((dT.refl w).alloc _).drewN _)
 have t:(K.S s (11+b*2) != -1)=false:=by simpa[aa.file] using h
 have u:=(G.file s a f i).resolve_left r.out;obtain⟨d,j⟩:∃d:Nat,K.file s a=d:=⟨(K.file s a).toNat,by omega⟩;have k:d<K.nD:=by omega
 have E:ar (pZ K s a b=⟨K.fc s b d (K.end s a),0,0⟩):=by unfold pZ;simp[h,j,ar]
 have H:∀o,(w.alloc o).cell? (O A (s*20+11+a*2) Q)=J (Y U d):=λo=>by rw[(c.out.alloc o).ff f i];exact congrArg (λq=>J (dL .i64 q)) j
 have I:∀o,(w.alloc o).cell? (O A (s*20+11+a*2+1) Q)=J (Bo (K.end s a)):=λo=>(c.out.alloc o).fe f i;have v:ar _:=G.rd d k;have x:ar _:=G.wt d k;clear h j u;generalize K.end s a=y at *
 go_wp2_with fail
 refine(CZ ((c.out.alloc _).drewN _) y f m k v.out x.out).mono ?_;rintro e n ⟨rfl,R1,q1⟩
 go_wp2
 go_ret2
 exact Ends.mk E R1 ((((dT.refl w).alloc _).drewN _).trans q1)
theorem VX(R:js w l F A D K)(G:Good K){s:Nat}(j:s<K.nS)(m:a<K.nS)(k:b<4)(t:c<4) :
  aF V 65 #[Po (J (O l 0 Q)),Y U s,.agg #[Y U a,Y U b,Y U c]] w (Ends l F A D w (P9 K s a b c)):=by
 have f:ar (js w l F A D K):=R;have I:=R.hS;have L:=λo=>(f.out.alloc o).k1;clear R
 go_enter Tryz.func65,Tryz.ntmps65
 go_wp2
 go_quiet (fail)
 go_wp2_with fail
 refine(Db ((f.out.alloc _).drewN _) m).mono ?_;rintro e n ⟨rfl,rfl⟩
 by_cases i:K.oa s a=true
 case neg =>
  have u:K.oa s a=false:=by simpa using i
  have E:ar (P9 K s a b c=⟨K,0,7⟩):=by unfold P9;simp[u,ar]
  clear i
  go_wp2
  go_ret2
  exact Ends.mk E ((f.out.alloc _).drewN _) (((dT.refl w).alloc _).drewN _)
 go_wp2_with fail
 refine(J1 ((f.out.alloc _).drewN _) j k).mono ?_;rintro e n ⟨rfl,rfl⟩
 by_cases g:K.file s b=-1
 case pos =>
  have v:(K.S s (11+b*2) != -1)=false:=by simpa[aa.file] using g
  have E:ar (P9 K s a b c=⟨K,0,8⟩):=by unfold P9;simp[i,g,ar]
  clear g
  go_wp2
  go_ret2
  exact Ends.mk E ((f.out.alloc _).drewN _) (((dT.refl w).alloc _).drewN _)
 have v:(K.S s (11+b*2) != -1)=true:=by simpa[aa.file] using g
 have x:ar (¬K.file s b=-1):=g;clear g
 go_wp2_with fail
 refine(J1 ((f.out.alloc _).drewN _) m t).mono ?_;rintro e n ⟨rfl,rfl⟩
 by_cases h:K.file a c=-1
 case neg =>
  have y:(K.S a (11+c*2) != -1)=true:=by simpa[aa.file] using h
  have E:ar (P9 K s a b c=⟨K,0,8⟩):=by unfold P9;simp[i,h,ar]
  clear h
  go_wp2
  go_ret2
  exact Ends.mk E ((f.out.alloc _).drewN _) (((dT.refl w).alloc _).drewN _)
 have y:(K.S a (11+c*2) != -1)=false:=by simpa[aa.file] using h
 have z:=(G.file s b j k).resolve_left x.out;obtain⟨d,p⟩:∃d:Nat,K.file s b=d:=⟨(K.file s b).toNat,by omega⟩;have r:d<K.nD:=by omega
 have E:ar (P9 K s a b c=⟨K.fc a c d (K.end s b),0,0⟩):=by unfold P9;simp[i,h,p,ar]
 have N:∀o,(w.alloc o).cell? (O A (s*20+11+b*2) Q)=J (Y U d):=λo=>by rw[(f.out.alloc o).ff j k];exact congrArg (λq=>J (dL .i64 q)) p
 have P:∀o,(w.alloc o).cell? (O A (s*20+11+b*2+1) Q)=J (Bo (K.end s b)):=λo=>(f.out.alloc o).fe j k;have B:ar _:=G.rd d r;have C:ar _:=G.wt d r;clear h p z;generalize K.end s b=H at *
 go_wp2_with fail
 refine(CZ ((f.out.alloc _).drewN _) H m t r B.out C.out).mono ?_;rintro e n ⟨rfl,R1,q1⟩
 go_wp2
 go_ret2
 exact Ends.mk E R1 ((((dT.refl w).alloc _).drewN _).trans q1)
def aa.oy(K:aa)(s x d:Nat)(b:Bool):aa:=(K.av s x (-1) false).count d b (-1)
theorem b2W(K:aa)(s x d:Nat)(a:K.file s x=d) :
  K.nv s x=if (K.oy s x d (K.end s x)).D d 3=0/\(K.oy s x d (K.end s x)).D d 4=0 then((K.oy s x d (K.end s x)).an ((K.oy s x d (K.end s x)).D d 0).toNat 0 (-1)).hZ d (-1) else K.oy s x d (K.end s x):=by
 unfold aa.nv;rw[a,au];rfl
theorem YD(K:aa)(s x d:Nat)(b:Bool):(K.oy s x d b).nF=K.nF/\(K.oy s x d b).nS=K.nS/\(K.oy s x d b).nD=K.nD:=by
 cases b<;>exact⟨Z,Z,Z⟩
theorem Qa(K:aa)(s x d:Nat)(b:Bool):(K.oy s x d b).D d 0=K.D d 0:=by
 cases b<;>simp[aa.oy,aa.count,aa.av,aa.cf,aa.oB,aa.np,upd]
theorem Jj(R:js w l F A D K){s:Nat}(n:s<K.nS)(x:b<4)(z:K.file s b=d)(H:d<K.nD)(I:0<=K.D d 3/\K.D d 3<=24)(L:0<=K.D d 4/\K.D d 4<=24)(N:K.D d 0=e)(b':e<K.nF) :
  aF V 105 #[Po (J (O l 0 Q)),Y U s,Y U b] w λc f=>c=.returned (.tuple #[])/\js f l F A D (K.nv s b)/\dT F A D w f:=by
 have E:=b2W K s b d z;have P:=YD K s b d (K.end s b);have S:=Qa K s b d (K.end s b);have k:ar (js w l F A D K):=R;have hn:=R.hS;have hm:=R.hD;have hf:=R.hF;have k1:=R.k1;have c':=λo=>(k.out.alloc o).k1;have c1:w.cell? (O A (s*20+11+b*2) Q)=J (Y U d):=by rw[k.out.ff n x];exact congrArg (λq=>J (dL .i64 q)) z
 have c2:w.cell? (O A (s*20+11+b*2+1) Q)=J (Bo (K.end s b)):=k.out.fe n x;have d':∀o,(w.alloc o).cell? (O A (s*20+11+b*2) Q)=J (Y U d):=λo=>by rw[(k.out.alloc o).ff n x];exact congrArg (λq=>J (dL .i64 q)) z
 have e':∀o,(w.alloc o).cell? (O A (s*20+11+b*2+1) Q)=J (Bo (K.end s b)):=λo=>(k.out.alloc o).fe n x;have zz:=λo=>(k.out.alloc o).zs;have n1:A≠w.heap.size:=dt R.ls;have n2:w.heap.size≠A:=λc=>n1 c.symm;have n3:w.heap.size≠F:=λc=>dt R.lf c.symm;have n4:w.heap.size≠D:=λc=>dt R.ld c.symm;have n5:l≠w.heap.size:=dt R.lk;have T:ar _:=I;have W:ar _:=L;have j:ar (w.heap.size≠F/\w.heap.size≠A/\w.heap.size≠D):=⟨n3,n2,n4⟩;clear R I L z;generalize hb:K.end s b=p at *;clear hb;have r:ar _:=E;have G:ar _:=P;have M:ar (_=(e:Int)):=S.trans N;clear E P S N
 go_enter Tryz.func105,Tryz.ntmps105
 go_wp2_with fail
 refine(Pj (K:=K.av s b (-1) false) (((k.out.alloc _).cf (c:=11+b*2) n Za (FU b) Za _).oB (c:=12+b*2) n (FQ b x) Za _) p (-1) H Za T.out W.out).mono ?_;rintro c g ⟨rfl,R2,q2⟩;have h:ar (js g l F A D (K.oy s b d p)):=R2;have b0:g.cell? (O w.heap.size 0 Q)=J (Y U d):=by
  rw[q2.cell Zc j.out.1 j.out.2.1 j.out.2.2,d7 _ (bP j.out.2.1),d7 _ (bP j.out.2.1)];exact jC _ _ 0 _ _ _ (cC w _)
 have B:ar (dT F A D w g):=((((dT.refl w).alloc _).cf _ _).cf _ _).trans q2;have lb:w.heap.size<g.heap.size:=by have:=q2.size;simp at this;omega
 clear R2 q2 c1 c2 d' e' zz k1 c';let⟨X,y2,y3⟩:=G.out;have t:d<(K.oy s b d p).nD:=by rw[y3];exact H
 have f':e<(K.oy s b d p).nF:=by rw[X];exact b'
 have D0:(K.oy s b d p).D d 0=e:=M.out;have a':ar _:=D0;clear X y2 y3 D0 G M;generalize g':K.oy s b d p=a at *;clear g' T W;have r2:=h.out.k2;have d0:g.cell? (O D (d*5) Q)=J (Y U e):=by rw[h.out.d0 t,a'.out]
 have d1:=h.out.d1 t;have d2:=h.out.d2 t;have d3:=h.out.d3 t;have d4:=h.out.d4 t;have m1:=h.out.hD;have lk:g.heap.size≠l:=λc=>dt h.out.lk c.symm;have ld:g.heap.size≠D:=λc=>dt h.out.ld c.symm;have lw:g.heap.size≠w.heap.size:=by omega
 go_wp2_with fail
 go_region_held3 (λf=>f.cell? (O l 2 Q)=J (Sc (J (O D 0 Q)) a.nD a.nD)/\f.cell? (O w.heap.size 0 Q)=J (Y U d)/\f.cell? (O D (d*5) Q)=J (Y U e)/\f.cell? (O D (d*5+1) Q)=J (Y U (a.D d 1))/\f.cell? (O D (d*5+2) Q)=J (Y U (a.D d 2))/\f.cell? (O D (d*5+3) Q)=J (Y U (a.D d 3))/\f.cell? (O D (d*5+4) Q)=J (Y U (a.D d 4))) (go_keep) (fail)
 by_cases m:a.D d 3=0
 .have e3:(a.D d 3==0)=true:=by simpa using m
  by_cases u:a.D d 4=0
  .have e4:(a.D d 4==0)=true:=by simpa using u
   have y:ar (K.nv s b=(a.an e 0 (-1)).hZ d (-1)):=by unfold ar;rw[r.out,mZ ⟨m,u⟩,a'.out,au]
   clear m u r
   go_wp2_with fail
   refine(Y8 ((h.out.alloc _).drew) 0 (-1) f').mono ?_;rintro c C ⟨rfl,R3,q3⟩;have b3:C.cell? (O w.heap.size 0 Q)=J (Y U d):=by
    rw[q3.cell (by show w.heap.size<(g.alloc _).heap.size;simp;omega) j.out.1 j.out.2.1 j.out.2.2];rw[show ∀o:Obj,(g.alloc o).drew.cell? (O w.heap.size 0 Q)=g.cell? (O w.heap.size 0 Q) from λo=>Zf (w:=g) (a:=(O w.heap.size 0 Q)) (aJ g o _ lb)];exact b0
   have h':ar (dT F A D w C):=((B.out.alloc _).drew).trans q3;have i:ar (js C l F A D (a.an e 0 (-1))):=R3;have v:d<(a.an e 0 (-1)).nD:=t;clear R3 q3 d0 d1 d2 d3 d4 r2 b0;generalize a.an e 0 (-1)=K2 at *;have r2:=i.out.k2;have d0:=i.out.d0 v;have d1:=i.out.d1 v;have d2:=i.out.d2 v;have d3:=i.out.d3 v;have d4:=i.out.d4 v;have zd:=i.out.zd;have m2:=i.out.hD;have kd:=i.out.kd;have dk:D≠l:=λc=>kd c.symm;have wd:D≠w.heap.size:=λc=>j.out.2.2 c.symm
   go_wp2_with fail
   go_region_held3 (λf=>f.cell? (O l 2 Q)=J (Sc (J (O D 0 Q)) K2.nD K2.nD)/\f.cell? (O w.heap.size 0 Q)=J (Y U d)) (go_keep) (fail)
   go_wp2
   go_end0
   refine⟨Z,?_,((((((h'.out.np _ _).np _ _).np _ _).np _ _).np _ _).drew)⟩;rw[y.out];exact(i.out.hZ v (-1)).drew
  .have e4:(a.D d 4==0)=false:=by simpa using u
   have y:ar (K.nv s b=a):=by unfold ar;rw[r.out,mY λe=>u e.2]
   clear m u r
   go_wp2
   go_end0
   refine⟨Z,?_,(B.out.alloc _).drew⟩;rw[y.out];exact(h.out.alloc _).drew
 .have e3:(a.D d 3==0)=false:=by simpa using m
  have y:ar (K.nv s b=a):=by unfold ar;rw[r.out,mY λe=>m e.1]
  clear m r
  go_wp2
  go_end0
  refine⟨Z,?_,(B.out.alloc _).drew⟩;rw[y.out];exact(h.out.alloc _).drew
theorem Up(R:js w l F A D K)(G:Good K){s:Nat}(y z:Int)(c:s<K.nS)(f:a<4) :
  aF V 73 #[Po (J (O l 0 Q)),Y U s,.agg #[Y U a,Y U y,Y U z]] w (Ends l F A D w (N3 K s a)):=by
 have g:ar (js w l F A D K):=R;clear R
 by_cases b:K.file s a=-1
 .have p:(K.S s (11+a*2) != -1)=false:=by simpa[aa.file] using b
  have E:ar (N3 K s a=⟨K,0,8⟩):=by unfold N3;simp[b,ar]
  clear b
  go_enter Tryz.func73,Tryz.ntmps73
  go_wp2_with fail
  refine(J1 (g.out.alloc _) c f).mono ?_;rintro e m ⟨rfl,rfl⟩
  go_wp2
  go_ret2
  exact Ends.mk E (g.out.alloc _) ((dT.refl w).alloc _)
 .have p:(K.S s (11+a*2) != -1)=true:=by simpa[aa.file] using b
  have hF:=G.file s a c f;obtain⟨d,j⟩:∃d:Nat,K.file s a=d:=⟨(K.file s a).toNat,by omega⟩;have i:d<K.nD:=by omega
  rw[j,au]at hF;obtain⟨h,n⟩:∃h:Nat,K.D d 0=h:=⟨(K.D d 0).toNat,by omega⟩;have q:h<K.nF:=by rcases G.pc d i with k|k<;>omega
  have E:ar (N3 K s a=⟨K.nv s a,0,0⟩):=by unfold N3;simp[b,ar]
  have o:ar (K.file s a=d/\K.D d 0=h):=⟨j,n⟩;have r:ar _:=G.rd d i;have t:ar _:=G.wt d i;clear b hF j n
  go_enter Tryz.func73,Tryz.ntmps73
  go_wp2_with fail
  refine(J1 (g.out.alloc _) c f).mono ?_;rintro e m ⟨rfl,rfl⟩
  go_wp2_with fail
  refine(Jj (g.out.alloc _) c f o.out.1 i r.out t.out o.out.2 q).mono ?_;rintro e m ⟨rfl,R1,q1⟩
  go_wp2
  go_ret2
  exact Ends.mk E R1 (((dT.refl w).alloc _).trans q1)
theorem c6i(R:js w l F A D K)(G:Good K){s:Nat}(z:Int)(y:s<K.nS)(f:a<K.nS)(j:b<4) :
  aF V 69 #[Po (J (O l 0 Q)),Y U s,.agg #[Y U a,Y U b,Y U z]] w (Ends l F A D w (X1 K s a b)):=by
 have c:ar (js w l F A D K):=R;clear R
 by_cases m:K.still s a=true
 .by_cases g:K.file a b=-1
  .have r:(K.S a (11+b*2) != -1)=false:=by simpa[aa.file] using g
   have E:ar (X1 K s a b=⟨K,0,8⟩):=by unfold X1;simp[m,g,ar]
   clear g
   go_enter lH,kK
   go_wp2
   go_quiet (fail)
   go_wp2_with fail
   refine(Y0 ((c.out.alloc _).drewN _) f).mono ?_;rintro e i ⟨rfl,rfl⟩
   go_wp2_with fail
   refine(J1 ((c.out.alloc _).drewN _) f j).mono ?_;rintro e i ⟨rfl,rfl⟩
   go_wp2
   go_ret2
   exact Ends.mk E ((c.out.alloc _).drewN _) (((dT.refl w).alloc _).drewN _)
  .have r:(K.S a (11+b*2) != -1)=true:=by simpa[aa.file] using g
   have hF:=G.file a b f j;obtain⟨d,o⟩:∃d:Nat,K.file a b=d:=⟨(K.file a b).toNat,by omega⟩;have n:d<K.nD:=by omega
   rw[o,au]at hF;obtain⟨h,p⟩:∃h:Nat,K.D d 0=h:=⟨(K.D d 0).toNat,by omega⟩;have t:h<K.nF:=by rcases G.pc d n with k|k<;>omega
   have E:ar (X1 K s a b=⟨K.nv a b,0,0⟩):=by unfold X1;simp[m,g,ar]
   have q:ar (K.file a b=d/\K.D d 0=h):=⟨o,p⟩;have u:ar _:=G.rd d n;have v:ar _:=G.wt d n;clear g hF o p
   go_enter lH,kK
   go_wp2
   go_quiet (fail)
   go_wp2_with fail
   refine(Y0 ((c.out.alloc _).drewN _) f).mono ?_;rintro e i ⟨rfl,rfl⟩
   go_wp2_with fail
   refine(J1 ((c.out.alloc _).drewN _) f j).mono ?_;rintro e i ⟨rfl,rfl⟩
   go_wp2_with fail
   refine(Jj ((c.out.alloc _).drewN _) f j q.out.1 n u.out v.out q.out.2 t).mono ?_;rintro e i ⟨rfl,R1,q1⟩
   go_wp2
   go_ret2
   exact Ends.mk E R1 ((((dT.refl w).alloc _).drewN _).trans q1)
 .have x:K.still s a=false:=by simpa using m
  have E:ar (X1 K s a b=⟨K,0,7⟩):=by unfold X1;simp[x,ar]
  clear m
  go_enter lH,kK
  go_wp2
  go_quiet (fail)
  go_wp2_with fail
  refine(Y0 ((c.out.alloc _).drewN _) f).mono ?_;rintro e i ⟨rfl,rfl⟩
  go_wp2
  go_ret2
  exact Ends.mk E ((c.out.alloc _).drewN _) (((dT.refl w).alloc _).drewN _)
theorem HF(K:aa)(s:Nat):∀n,(K.mg s n).nF=K.nF/\(K.mg s n).nS=K.nS/\(K.mg s n).nD=K.nD
 | 0=>⟨Z,Z,Z⟩
 | n+1=>by
  unfold aa.mg;split
  .exact HF K s n
  .exact HF K s n
theorem c3W(R:js w l F A D K){s:Nat}(a y z:Int)(h:s<K.nS) :
  aF V 67 #[Po (J (O l 0 Q)),Y U s,.agg #[Y U a,Y U y,Y U z]] w (Ends l F A D w (Z3 K s a)):=by
 have b:ar (js w l F A D K):=R;have x:=R.hS
 by_cases n:s=0
 .subst n;have E:ar (Z3 K 0 a=⟨K,0,7⟩):=by unfold Z3;simp[ar]
  clear R
  go_enter Tryz.func67,Tryz.ntmps67
  go_wp2
  go_ret2
  exact Ends.mk E (b.out.alloc _) ((dT.refl w).alloc _)
 .have E:ar (Z3 K s a=⟨((K.cf s 0 3).cf s 19 a).mg s K.nS,0,0⟩):=by unfold Z3;simp[n,ar]
  have N:((s:Int)==0)=false:=by rw[beq_eq_false_iff_ne];omega
  have P:=λo=>(b.out.alloc o).k1;have S:=λo=>(b.out.alloc o).sk h;have T:=λo=>(b.out.alloc o).sc h;have W:=λo=>(b.out.alloc o).zs;have n1:=R.ks;have n2:A≠l:=λe=>n1 e.symm;have n3:A≠w.heap.size:=dt R.ls;have G:w.heap.size≠A:=λe=>n3 e.symm;clear R n
  go_enter Tryz.func67,Tryz.ntmps67
  go_wp2
  go_region
  all_goals
   go_wp2
   go_loopw [32] (λi u=>∃k:Nat,k<=K.nS/\i=Y U k/\js u l F A D (((K.cf s 0 3).cf s 19 a).mg s k)/\dT F A D w u) λi _=>K.nS - (bT i).toNat
   case atStart =>
    exact⟨0,by omega,Z,(((b.out.alloc _).cf (c:=0) h Za Aw Z 3).cf (c:=19) h Za Lu Z a).drew,((((dT.refl w).alloc _).cf _ _).cf _ _).drew⟩
   case round =>
    obtain⟨k,M,rfl,c,p⟩:=hrel;have g:ar _:=c;have q:ar _:=p;have r:=HF ((K.cf s 0 3).cf s 19 a) s k;have j:(((K.cf s 0 3).cf s 19 a).mg s k).nS=K.nS:=r.2.1;have B:ar _:=j
    by_cases C:k<K.nS
    .have m:k<(((K.cf s 0 3).cf s 19 a).mg s k).nS:=by rw[j];exact C
     have p0:=c.k1;have X:=c.sp m;have p2:=c.zs;have v:ar (((K.cf s 0 3).cf s 19 a).mg s (k+1)=if (((K.cf s 0 3).cf s 19 a).mg s k).S k 1=s then(((K.cf s 0 3).cf s 19 a).mg s k).cf k 1 0 else((K.cf s 0 3).cf s 19 a).mg s k):=Z;clear c p r j;generalize H:((K.cf s 0 3).cf s 19 a).mg s k=d at *;clear H
     by_cases f:d.S k 1=s
     .have I:(d.S k 1==(s:Int))=true:=by simpa using f
      have t:ar (((K.cf s 0 3).cf s 19 a).mg s (k+1)=d.cf k 1 0):=by unfold ar;rw[v.out,mZ f]
      have m1:d.nS<=6:=by rw[B.out];exact x
      clear f
      go_wp2_with fail
      refine(Z1 g.out s m).mono ?_;rintro e L ⟨rfl,rfl⟩
      go_wp2
      refine⟨⟨k+1,by omega,by go_num,?_,q.out.cf _ _⟩,by simp[bT];omega⟩;rw[t.out];exact g.out.cf (c:=1) m Za FA Z 0
     .have I:(d.S k 1==(s:Int))=false:=by simpa using f
      have t:ar (((K.cf s 0 3).cf s 19 a).mg s (k+1)=d):=by unfold ar;rw[v.out,mY f]
      clear f
      go_wp2_with fail
      refine(Z1 g.out s m).mono ?_;rintro e L ⟨rfl,rfl⟩
      go_wp2
      refine⟨⟨k+1,by omega,by go_num,?_,q.out⟩,by simp[bT];omega⟩;rw[t.out];exact g.out
    .obtain rfl:k=K.nS:=by omega
     clear c p r j
     go_wp2
     go_ret2
     exact Ends.mk E g.out q.out
theorem js.nj(R:js w l F A D K){g h:Nat}(a:g<K.nF) :
  js ((((w.setCell (O F (g*6+2) Q) (Y U (K.F h 2))).setCell (O F (g*6+2+1) Q) (Y U (K.F h 3))).setCell (O F (g*6+2+2) Q) (Y U (K.F h 4))).setCell (O F (g*6+2+3) Q) (Y U (K.F h 5))) l F A D (K.nj g h):=by
 have d:=R.ni (c:=2) (o:=g*6+2) a Za Z (K.F h 2);have b:g<(K.ni g 2 (K.F h 2)).nF:=a;have e:=d.ni (c:=3) (o:=g*6+2+1) b Za Za (K.F h 3);have c:g<((K.ni g 2 (K.F h 2)).ni g 3 (K.F h 3)).nF:=b;have f:=e.ni (c:=4) (o:=g*6+2+2) c Za Za (K.F h 4);have i:g<(((K.ni g 2 (K.F h 2)).ni g 3 (K.F h 3)).ni g 4 (K.F h 4)).nF:=c;exact f.ni (c:=5) (o:=g*6+2+3) i Za Za (K.F h 5)
theorem c3F(R:js w l F A D K)(G:Good K){s:Nat}(v:s<K.nS)(x:a<K.nS)(k:c<4)(y:d<K.nF) :
  aF V 64 #[Po (J (O l 0 Q)),Y U s,.agg #[Y U a,Y U c,Y U d]] w (Ends l F A D w (I9 K s a c d)):=by
 have m:ar (js w l F A D K):=R;have hn:=R.hS;have hm:=R.hF;clear R
 go_enter Tryz.func64,Tryz.ntmps64
 go_wp2
 go_quiet (fail)
 go_wp2_with fail
 refine(Db ((m.out.alloc _).drewN _) x).mono ?_;rintro e o ⟨rfl,rfl⟩
 by_cases p:K.oa s a=true
 case neg =>
  have S:K.oa s a=false:=by simpa using p
  have E:ar (I9 K s a c d=⟨K,0,7⟩):=by unfold I9;simp[S,ar]
  clear p
  go_wp2
  go_ret2
  exact Ends.mk E ((m.out.alloc _).drewN _) (((dT.refl w).alloc _).drewN _)
 go_wp2_with fail
 refine(p8 ((m.out.alloc _).drewN _) v k).mono ?_;rintro e o ⟨rfl,rfl⟩
 by_cases i:K.dy s c=-1
 case pos =>
  have T:(K.S s (3+c*2) != -1)=false:=by simpa[aa.dy] using i
  have E:ar (I9 K s a c d=⟨K,0,6⟩):=by unfold I9;simp[p,i,ar]
  clear i
  go_wp2
  go_ret2
  exact Ends.mk E ((m.out.alloc _).drewN _) (((dT.refl w).alloc _).drewN _)
 have T:(K.S s (3+c*2) != -1)=true:=by simpa[aa.dy] using i
 have M:ar (¬K.dy s c=-1):=i;clear i
 go_wp2_with fail
 refine(p8 ((m.out.alloc _).drewN _) x k).mono ?_;rintro e o ⟨rfl,rfl⟩
 by_cases j:K.dy a c=-1
 case neg =>
  have X:(K.S a (3+c*2) != -1)=true:=by simpa[aa.dy] using j
  have E:ar (I9 K s a c d=⟨K,0,6⟩):=by unfold I9;simp[p,j,ar]
  clear j
  go_wp2
  go_ret2
  exact Ends.mk E ((m.out.alloc _).drewN _) (((dT.refl w).alloc _).drewN _)
 have X:(K.S a (3+c*2) != -1)=false:=by simpa[aa.dy] using j
 have H2:ar (K.dy a c=-1):=j;clear j
 go_wp2_with fail
 refine(zj ((m.out.alloc _).drewN _) y).mono ?_;rintro e o ⟨rfl,rfl⟩;have i:=M.out;have j:=H2.out
 by_cases q:K.F d 0=0
 case neg =>
  have e3:(K.F d 0==0)=false:=by simpa using q
  have E:ar (I9 K s a c d=⟨K,0,5⟩):=by unfold I9;simp[p,i,j,q,ar]
  clear i j q
  go_wp2
  go_ret2
  exact Ends.mk E ((m.out.alloc _).drewN _) (((dT.refl w).alloc _).drewN _)
 have e3:(K.F d 0==0)=true:=by simpa using q
 obtain⟨g,z⟩:∃g:Nat,K.dy s c=g:=by rcases G.dy s c v k with h|h;exact absurd h i;exact⟨(K.dy s c).toNat,by omega⟩
 have hl:g<K.nF:=by rcases G.dy s c v k with h|h;all_goals grind
 have B:s≠a:=by grind
 have E:ar (I9 K s a c d=⟨((K.an d 2 a).g9 a c d (K.wr s c)).nj d g,0,0⟩):=by unfold I9;simp[p,j,q,z,ar]
 have Hg:ar (K.S s (3+c*2)=g):=z;have g':ar (s≠a):=B;clear i j q z B
 go_wp2_with fail
 refine(Y8 ((m.out.alloc _).drewN _) 2 _ y).mono ?_;rintro e o ⟨rfl,R1,q1⟩;have n:ar (js o l F A D (K.an d 2 a)):=R1;have C:ar (dT F A D w o):=(((dT.refl w).alloc _).drewN _).trans q1;have t:a<(K.an d 2 a).nS:=x;have t2:s<(K.an d 2 a).nS:=v;have t3:d<(K.an d 2 a).nF:=y;have t4:g<(K.an d 2 a).nF:=hl;have H:(K.an d 2 a).S s (3+c*2)=g:=Hg.out;have t6:K.wr s c=(K.an d 2 a).B s (4+c*2):=Z;have b':ar _:=H;have HE:ar (I9 K s a c d=⟨((K.an d 2 a).g9 a c d ((K.an d 2 a).B s (4+c*2))).nj d g,0,0⟩):=E;clear R1 q1 H t6 E;generalize K.an d 2 a=b at *;have r0:=n.out.k1;have r1:=n.out.pf t k;have r2:=n.out.pw t k;have r3:=n.out.zs;have r4:=n.out.hS;have n1:=n.out.ks;have n2:A≠l:=λe=>n1 e.symm;have i1:(0:Int)<=(a:Int):=by omega
 have i2:(a:Int)<(b.nS:Int):=by omega
 have i3:(0:Int)<=(c:Int):=by omega
 have i4:(c:Int)<4:=by omega
 go_wp2_with fail
 go_region_held3 (λw'=>w'.cell? (O l 1 Q)=J (Sc (J (O A 0 Q)) b.nS b.nS)) (go_keep) (first|(go_at_call 99;refine(V9 n.out.drew t2 k).mono ?_;rintro e I ⟨rfl,rfl⟩))
 have f:ar (js _ l F A D (b.g9 a c d (b.B s (4+c*2)))):=((n.out.cf (c:=3+c*2) (o:=a*20+3+c*2) t Za (CY c) Za d).oB (c:=4+c*2) (o:=a*20+3+c*2+1) t (Ao c k) Za (b.B s (4+c*2)));have L:ar (dT F A D w _):=((C.out.cf (a*20+3+c*2) (Y U d)).cf (a*20+3+c*2+1) (Bo (b.B s (4+c*2))));have u1:a<(b.g9 a c d (b.B s (4+c*2))).nS:=t;have u2:s<(b.g9 a c d (b.B s (4+c*2))).nS:=t2;have r:d<(b.g9 a c d (b.B s (4+c*2))).nF:=t3;have u:g<(b.g9 a c d (b.B s (4+c*2))).nF:=t4;have N:(b.g9 a c d (b.B s (4+c*2))).S a (3+c*2)=d:=upd_same _ _;have P:(b.g9 a c d (b.B s (4+c*2))).S s (3+c*2)=g:=(d6 (f:=b.S) (i:=a) (c:=3+c*2) (v:=d) s (b:=3+c*2) (by grind)).trans b'.out;have c':ar _:=N;have d':ar _:=P;clear N P r0 r1 r2
 go_wp2_with fail
 refine(zP f.out.drew u1 k c'.out r).mono ?_;rintro e I ⟨rfl,nq1,rfl⟩
 go_wp2_with fail
 refine(zP (f.out.drewN _) u2 k d'.out u).mono ?_;rintro e I ⟨rfl,nq2,rfl⟩;have v0:=f.out.f g 2 u Za;have v1:=f.out.f g 3 u Za;have v2:=f.out.f g 4 u Za;have v3:=f.out.f g 5 u Za;have x0:=f.out.f d 2 r Za;have x1:=f.out.f d 3 r Za;have x2:=f.out.f d 4 r Za;have x3:=f.out.f d 5 r Za;have zf:=f.out.zf;have e':ar _:=f.out.nj (g:=d) (h:=g) r;have f':ar (dT F A D w _):=(((L.out.ni (d*6+2) (Y U ((b.g9 a c d (b.B s (4+c*2))).F g 2))).ni (d*6+2+1) (Y U ((b.g9 a c d (b.B s (4+c*2))).F g 3))).ni (d*6+2+2) (Y U ((b.g9 a c d (b.B s (4+c*2))).F g 4))).ni (d*6+2+3) (Y U ((b.g9 a c d (b.B s (4+c*2))).F g 5));generalize hW:((o.setCell (O A (a*20+3+c*2) Q) (Y U d)).setCell (O A (a*20+3+c*2+1) Q) (Bo (b.B s (4+c*2))))=W at *;clear hW n C f L
 go_wp2
 go_ret2
 exact Ends.mk HE (e'.out.drewN _) (f'.out.drewN _)
theorem js.nH(R:js w l F A D K)(k:a<K.nS):js (w.setCells A (a*20) sq) l F A D (K.nH a):=by
 have p:∀j,j<sq.length->(w.cell? (O A (a*20+j) Q)).isSome=true:=λj c=>by
  rw[Q9]at c
  by_cases d:oV j
  .rw[R.b a j k d];rfl
  .rw[R.s a j k c d];rfl
 have g:∀b o,b≠A->(w.setCells A (a*20) sq).cell? (O b o Q)=w.cell? (O b o Q):=λb o d=>dS A sq (a*20) w (O b o Q) λh=>absurd h d;have m:∀i j,i≠a->j<20->(w.setCells A (a*20) sq).cell? (O A (i*20+j) Q)=w.cell? (O A (i*20+j) Q):=λi j f c=>dS A sq (a*20) w (O A (i*20+j) Q) (λ_ _=>by rw[Q9];grind);have n:∀j (c:j<20),(w.setCells A (a*20) sq).cell? (O A (a*20+j) Q)=J (sq[j]'(by rw[Q9];exact c)):=λj c=>kG A sq (a*20) w p j (by rw[Q9];exact c);refine⟨by rw[g _ _ R.ks];exact R.k0,by rw[g _ _ R.ks];exact R.k1,by rw[g _ _ R.ks];exact R.k2,λi j f c=>by rw[g _ _ R.fs];exact R.f i j f c,?_,?_,λi j f c=>by rw[g _ _ λe=>R.sd e.symm];exact R.d i j f c,λo=>by rw[dE];exact R.zf o,λo=>by rw[dE];exact R.zs o,λo=>by rw[dE];exact R.zd o,by rw[l8];exact R.lk,by rw[l8];exact R.lf,by rw[l8];exact R.ls,by rw[l8];exact R.ld,R.kf,R.ks,R.kd,R.fs,R.fd,R.sd,R.hF,R.hS,R.hD⟩
 .intro i j f c d
  by_cases e:i=a
  .subst e;rw[n j c];show J _=J (dL .i64 (if i=i then(if j=0\/j=19 then 0 else -1) else K.S i j));rw[mZ Z];obtain rfl|rfl|rfl|rfl|rfl|rfl|rfl|rfl|rfl|rfl|rfl|rfl:j=0\/j=1\/j=2\/j=3\/j=5\/j=7\/j=9\/j=11\/j=13\/j=15\/j=17\/j=19:=by unfold oV at d;omega
   all_goals rfl
  .rw[m i j e c,R.s i j f c d];show _=J (dL .i64 (if i=a then(if j=0\/j=19 then 0 else -1) else K.S i j));rw[mY e]
 .intro i j f d;have c:j<20:=by unfold oV at d;omega
  by_cases e:i=a
  .subst e;rw[n j c];show J _=J (Value.bool (if i=i then false else K.B i j));rw[mZ Z];obtain rfl|rfl|rfl|rfl|rfl|rfl|rfl|rfl:j=4\/j=6\/j=8\/j=10\/j=12\/j=14\/j=16\/j=18:=by unfold oV at d;omega
   all_goals rfl
  .rw[m i j e c,R.b i j f d];show _=J (Value.bool (if i=a then false else K.B i j));rw[mY e]
theorem dT.setCells(h:dT F A D f w):∀(a:List Vu) (o:Nat),dT F A D f (w.setCells A o a):=λa=>by
 induction a generalizing w with
 | nil=>intro o;exact h
 | cons v r b=>intro o;exact b (h.cf o v) (o+1)
theorem TG(K:aa)(s c:Nat)(a:K.still s c=true)(p:Nat)(b:p<4)(h:K.dy c p≠-1):J9 K s c=⟨K,0,6⟩:=by
 unfold J9
 grind
theorem YO(K:aa)(s c:Nat)(a:K.still s c=true)(b:∀p,p<4->K.dy c p=-1)(x:Nat)(d:x<4)(h:K.file c x≠-1):J9 K s c=⟨K,0,8⟩:=by
 unfold J9
 grind
theorem Qb(K:aa)(s c:Nat)(a:K.still s c=true)(b:∀p,p<4->K.dy c p=-1)(d:∀x,x<4->K.file c x=-1):J9 K s c=⟨(K.an (K.S c 2).toNat 0 (-1)).nH c,K.S c 19,0⟩:=by
 unfold J9
 grind
theorem js.there(R:js w l F A D K)(b:a<K.nS):w.there A (a*20) 20:=λj d=>by
 refine⟨?_,R.zs _⟩
 by_cases c:oV j
 .rw[R.b a j b c];rfl
 .rw[R.s a j b d c];rfl
theorem js.vQ(R:js w l F A D K)(b:bE w.heap.size w f):js f l F A D K:=R.same b.size λk a _=>b.block k a
theorem b6w{P:Pg}{w:Wd}{b o:Nat}{cs:List Vu}(c:w.there b o cs.length)(d:∀v∈cs,v.oneCell'=true):Sem.run P (storeCells (O b o Q) cs) w=.ok () (w.setCells b o cs):=by
 have:=jL (P:=P) b o cs 0 w (λj a=>by simpa using(c j a).1) (λj a=>by simpa using(c j a).2) d;simpa using this
theorem Xj(R:js w l F A D K)(G:Good K){s:Nat}(y z:Int)(hs:s<K.nS)(d:a<K.nS) :
  aF V 70 #[Po (J (O l 0 Q)),Y U s,.agg #[Y U a,Y U y,Y U z]] w (Ends l F A D w (J9 K s a)):=by
 have c:ar (js w l F A D K):=R;have hn:=R.hS;have hm:=R.hF;clear R
 by_cases n:K.still s a=true
 .have C:K.S a 0≠0:=by intro h;unfold aa.still at n;grind
  obtain⟨t,T⟩:∃t:Nat,K.S a 2=t:=⟨(K.S a 2).toNat,by have:=G.oq a d C;omega⟩;have d':t<K.nF:=by have:=G.oq a d C;omega
  have W:ar (K.S a 2=t):=T;clear C T
  go_enter Tryz.func70,Tryz.ntmps70
  go_wp2_with fail
  refine(Y0 (c.out.alloc _) d).mono ?_;rintro e r ⟨rfl,rfl⟩
  go_wp2
  go_loop [19] (λi=>∃k:Nat,k<=4/\i=Y U k/\∀p,p<k->K.dy a p=-1) λi=>4 - (bT i).toNat
  case atStart=>exact⟨0,by omega,Z,λp H=>by omega⟩
  case round =>
   obtain⟨k,hk,rfl,M⟩:=hrel;have I:ar (∀p,p<k->K.dy a p=-1):=M;clear M
   by_cases m:k<4
   .by_cases b:K.dy a k=-1
    .have L:(K.S a (3+k*2) != -1)=false:=by simpa[aa.dy] using b
     have N:ar (K.dy a k=-1):=b;clear b
     go_wp2_with fail
     refine(p8 (c.out.alloc _) d m).mono ?_;rintro e r ⟨rfl,rfl⟩
     go_wp2
     exact⟨⟨k+1,by omega,by go_num,λp H=>by by_cases e:p=k;rw[e];exact N.out;exact I.out p Za⟩,by simp[bT];omega⟩
    .have L:(K.S a (3+k*2) != -1)=true:=by simpa[aa.dy] using b
     have E:ar (J9 K s a=⟨K,0,6⟩):=TG K s a n k m b;clear b
     go_wp2_with fail
     refine(p8 (c.out.alloc _) d m).mono ?_;rintro e r ⟨rfl,rfl⟩
     go_wp2
     go_ret2
     exact Ends.mk E (c.out.alloc _) ((dT.refl w).alloc _)
   .obtain rfl:k=4:=by omega
    go_wp2
    go_loop [27] (λi=>∃k:Nat,k<=4/\i=Y U k/\∀x,x<k->K.file a x=-1) λi=>4 - (bT i).toNat
    case atStart=>exact⟨0,by omega,Z,λp H=>by omega⟩
    case round =>
     obtain⟨k,hk,rfl,X⟩:=hrel;have Hf:ar (∀x,x<k->K.file a x=-1):=X;clear X
     by_cases m:k<4
     .by_cases b:K.file a k=-1
      .have L:(K.S a (11+k*2) != -1)=false:=by simpa[aa.file] using b
       have N:ar (K.file a k=-1):=b;clear b
       go_wp2_with fail
       refine(J1 (c.out.alloc _) d m).mono ?_;rintro e r ⟨rfl,rfl⟩
       go_wp2
       exact⟨⟨k+1,by omega,by go_num,λp H=>by by_cases e:p=k;rw[e];exact N.out;exact Hf.out p Za⟩,by simp[bT];omega⟩
      .have L:(K.S a (11+k*2) != -1)=true:=by simpa[aa.file] using b
       have E:ar (J9 K s a=⟨K,0,8⟩):=YO K s a n I.out k m b;clear b
       go_wp2_with fail
       refine(J1 (c.out.alloc _) d m).mono ?_;rintro e r ⟨rfl,rfl⟩
       go_wp2
       go_ret2
       exact Ends.mk E (c.out.alloc _) ((dT.refl w).alloc _)
     .obtain rfl:k=4:=by omega
      have E:ar (J9 K s a=⟨(K.an t 0 (-1)).nH a,K.S a 19,0⟩):=by unfold ar;rw[Qb K s a n I.out Hf.out,W.out,au]
      have k1:=λo=>(c.out.alloc o).k1;have c1:=λo=>(c.out.alloc o).sc d;have c2:∀o,(w.alloc o).cell? (O A (a*20+2) Q)=J (Y U t):=λo=>by rw[(c.out.alloc o).st d,W.out]
      go_wp2_with fail
      refine(Y8 (c.out.alloc _) 0 (-1) d').mono ?_;rintro e w2 ⟨rfl,R2,q2⟩;have u:ar (js w2 l F A D (K.an t 0 (-1))):=R2;have e':ar (dT F A D w w2):=((dT.refl w).alloc _).trans q2;have P:a<(K.an t 0 (-1)).nS:=d;clear R2 q2 k1 c1 c2;generalize K.an t 0 (-1)=g at *;have r1:=u.out.k1;have r2:=u.out.hS;have i1:(0:Int)<=(a:Int):=by omega
      have i2:(a:Int)<(g.nS:Int):=by omega
      obtain⟨f,q⟩:∃f,f=sq:=⟨_,Z⟩;have hl:ar (f.length=20):=by unfold ar;rw[q];exact Q9
      have i':ar ((V.info? 82).map (·.size)=J f.toArray.size):=by unfold ar;rw[q,aY,Q9];kernel_rfl
      have f':ar (∀v∈f,v.oneCell'=true):=by unfold ar;rw[q];exact λv hv=>cP.1 Jc v (by simpa using hv)
      have n1:=u.out.ks;have n2:A≠l:=λe=>n1 e.symm;have CE:ar (∀w,aF V 29 #[] w λe S=>e=.returned (.agg f.toArray)/\bE w.heap.size w S):=by unfold ar;rw[q];exact Pp
      have HN:ar (∀j,js j l F A D g->js (j.setCells A (a*20) f) l F A D (g.nH a)):=by unfold ar;rw[q];exact λj R3=>R3.nH P
      clear q;have j':a<(g.nH a).nS:=P
      go_wp2_with fail
      go_region_held3 (λS=>S.cell? (O l 1 Q)=J (Sc (J (O A 0 Q)) g.nS g.nS)) (go_keep) (first|(go_at_call 29;refine(CE.out _).mono ?_;rintro e j ⟨rfl,b3⟩;have B:ar (js j l F A D g):=u.out.drew.vQ b3;have g':ar (dT F A D w j):=e'.out.drew.trans ⟨b3.os,b3.tape,b3.output,b3.size,λk b _ _ _=>b3.block k b⟩;have t4:=B.out.k1;have t6:(j.setCells A (a*20) f).cell? (O l 1 Q)=J (Sc (J (O A 0 Q)) g.nS g.nS):=(HN.out j B.out).k1;have st:=b6w (P:=V) (w:=j) (b:=A) (o:=a*20) (cs:=f) (by rw[hl.out];exact B.out.there P) f'.out;clear b3))
      go_wp2
      go_ret2
      exact Ends.mk E (HN.out _ B.out) (g'.out.setCells f (a*20))
 .have h':K.still s a=false:=by simpa using n
  have E:ar (J9 K s a=⟨K,0,7⟩):=by unfold J9;simp[h',ar]
  clear n
  go_enter Tryz.func70,Tryz.ntmps70
  go_wp2_with fail
  refine(Y0 (c.out.alloc _) d).mono ?_;rintro e r ⟨rfl,rfl⟩
  go_wp2
  go_ret2
  exact Ends.mk E (c.out.alloc _) ((dT.refl w).alloc _)
theorem Uu(R:js w l F A D K)(a b c:Int) :
  aF V 36 #[Po (J (O l 0 Q)),Y U s,Y U 1,.agg #[Y U a,Y U b,Y U c]] w (Ends l F A D w ⟨K,0,0⟩):=by
 have d:ar (js w l F A D K):=R;clear R
 go_enter bU,bK
 go_wp2
 go_ret2
 exact Ends.mk (show ar _ from Z) (d.out.alloc _) ((dT.refl w).alloc _)
theorem SU(R:js w l F A D K)(a b c:Int) :
  aF V 36 #[Po (J (O l 0 Q)),Y U s,Y U 0,.agg #[Y U a,Y U b,Y U c]] w (Ends l F A D w ⟨K,0,2⟩):=by
 have d:ar (js w l F A D K):=R;clear R
 go_enter bU,bK
 go_wp2
 go_ret2
 exact Ends.mk (show ar _ from Z) (d.out.alloc _) ((dT.refl w).alloc _)
theorem c3N(R:js w l F A D K)(G:Good K)(b c:Int)(d:s<K.nS)(f:a<4) :
  aF V 36 #[Po (J (O l 0 Q)),Y U s,Y U 3,.agg #[Y U a,Y U b,Y U c]] w (Ends l F A D w (N4 K s a)):=by
 have g:ar (js w l F A D K):=R;clear R
 go_enter bU,bK
 go_wp2_with fail
 refine(QW (g.out.alloc _) G b c d f).mono ?_;rintro e h ⟨rfl,R1,q1⟩
 go_wp2
 go_ret2
 exact⟨Z,R1,((dT.refl w).alloc _).trans q1⟩
theorem b7p(R:js w l F A D K)(b c:Int)(d:s<K.nS)(f:a<4) :
  aF V 36 #[Po (J (O l 0 Q)),Y U s,Y U 4,.agg #[Y U a,Y U b,Y U c]] w (Ends l F A D w (B3 K s a b)):=by
 have g:ar (js w l F A D K):=R;clear R
 go_enter bU,bK
 go_wp2_with fail
 refine(QZ (g.out.alloc _) b c d f).mono ?_;rintro e h ⟨rfl,R1,q1⟩
 go_wp2
 go_ret2
 exact⟨Z,R1,((dT.refl w).alloc _).trans q1⟩
theorem c3K(R:js w l F A D K)(c:Int)(d:s<K.nS)(f:a<K.nS)(g:b<K.nF) :
  aF V 36 #[Po (J (O l 0 Q)),Y U s,Y U 5,.agg #[Y U a,Y U b,Y U c]] w (Ends l F A D w (G0 K s a b)):=by
 have h:ar (js w l F A D K):=R;clear R
 go_enter bU,bK
 go_wp2_with fail
 refine(c2z (h.out.alloc _) c d f g).mono ?_;rintro e i ⟨rfl,R1,q1⟩
 go_wp2
 go_ret2
 exact⟨Z,R1,((dT.refl w).alloc _).trans q1⟩
theorem TR(R:js w l F A D K)(G:Good K)(d:s<K.nS)(f:a<K.nS)(g:b<4)(h:c<K.nF) :
  aF V 36 #[Po (J (O l 0 Q)),Y U s,Y U 6,.agg #[Y U a,Y U b,Y U c]] w (Ends l F A D w (I9 K s a b c)):=by
 have i:ar (js w l F A D K):=R;clear R
 go_enter bU,bK
 go_wp2_with fail
 refine(c3F (i.out.alloc _) G d f g h).mono ?_;rintro e j ⟨rfl,R1,q1⟩
 go_wp2
 go_ret2
 exact⟨Z,R1,((dT.refl w).alloc _).trans q1⟩
theorem c7C(R:js w l F A D K)(G:Good K)(d:s<K.nS)(f:a<K.nS)(g:b<4)(h:c<4) :
  aF V 36 #[Po (J (O l 0 Q)),Y U s,Y U 7,.agg #[Y U a,Y U b,Y U c]] w (Ends l F A D w (P9 K s a b c)):=by
 have i:ar (js w l F A D K):=R;clear R
 go_enter bU,bK
 go_wp2_with fail
 refine(VX (i.out.alloc _) G d f g h).mono ?_;rintro e j ⟨rfl,R1,q1⟩
 go_wp2
 go_ret2
 exact⟨Z,R1,((dT.refl w).alloc _).trans q1⟩
theorem Rh(R:js w l F A D K)(b c:Int)(d:s<K.nS)(f:a<K.nS) :
  aF V 36 #[Po (J (O l 0 Q)),Y U s,Y U 8,.agg #[Y U a,Y U b,Y U c]] w (Ends l F A D w (Q8 K s a)):=by
 have g:ar (js w l F A D K):=R;clear R
 go_enter bU,bK
 go_wp2_with fail
 refine(c2C (g.out.alloc _) b c d f).mono ?_;rintro e h ⟨rfl,R1,q1⟩
 go_wp2
 go_ret2
 exact⟨Z,R1,((dT.refl w).alloc _).trans q1⟩
theorem c7B(R:js w l F A D K)(a b c:Int)(d:s<K.nS) :
  aF V 36 #[Po (J (O l 0 Q)),Y U s,Y U 9,.agg #[Y U a,Y U b,Y U c]] w (Ends l F A D w (Z3 K s a)):=by
 have f:ar (js w l F A D K):=R;clear R
 go_enter bU,bK
 go_wp2_with fail
 refine(c3W (f.out.alloc _) a b c d).mono ?_;rintro e g ⟨rfl,R1,q1⟩
 go_wp2
 go_ret2
 exact⟨Z,R1,((dT.refl w).alloc _).trans q1⟩
theorem Wr(R:js w l F A D K)(G:Good K)(c:Int)(d:s<K.nS)(f:a<K.nS)(g:b<4) :
  aF V 36 #[Po (J (O l 0 Q)),Y U s,Y U 10,.agg #[Y U a,Y U b,Y U c]] w (Ends l F A D w (X0 K s a b)):=by
 have h:ar (js w l F A D K):=R;clear R
 go_enter bU,bK
 go_wp2_with fail
 refine(Ta (h.out.alloc _) G c d f g).mono ?_;rintro e i ⟨rfl,R1,q1⟩
 go_wp2
 go_ret2
 exact⟨Z,R1,((dT.refl w).alloc _).trans q1⟩
theorem c7I(R:js w l F A D K)(G:Good K)(c:Int)(d:s<K.nS)(f:a<K.nS)(g:b<4) :
  aF V 36 #[Po (J (O l 0 Q)),Y U s,Y U 11,.agg #[Y U a,Y U b,Y U c]] w (Ends l F A D w (X1 K s a b)):=by
 have h:ar (js w l F A D K):=R;clear R
 go_enter bU,bK
 go_wp2_with fail
 refine(c6i (h.out.alloc _) G c d f g).mono ?_;rintro e i ⟨rfl,R1,q1⟩
 go_wp2
 go_ret2
 exact⟨Z,R1,((dT.refl w).alloc _).trans q1⟩
theorem XI(R:js w l F A D K)(G:Good K)(b c:Int)(d:s<K.nS)(f:a<K.nS) :
  aF V 36 #[Po (J (O l 0 Q)),Y U s,Y U 12,.agg #[Y U a,Y U b,Y U c]] w (Ends l F A D w (J9 K s a)):=by
 have g:ar (js w l F A D K):=R;clear R
 go_enter bU,bK
 go_wp2_with fail
 refine(Xj (g.out.alloc _) G b c d f).mono ?_;rintro e h ⟨rfl,R1,q1⟩
 go_wp2
 go_ret2
 exact⟨Z,R1,((dT.refl w).alloc _).trans q1⟩
theorem c9R(R:js w l F A D K)(G:Good K)(c:Int)(d:s<K.nS)(f:a<4)(g:b<4) :
  aF V 36 #[Po (J (O l 0 Q)),Y U s,Y U 14,.agg #[Y U a,Y U b,Y U c]] w (Ends l F A D w (pZ K s a b)):=by
 have h:ar (js w l F A D K):=R;clear R
 go_enter bU,bK
 go_wp2_with fail
 refine(TF (h.out.alloc _) G c d f g).mono ?_;rintro e i ⟨rfl,R1,q1⟩
 go_wp2
 go_ret2
 exact⟨Z,R1,((dT.refl w).alloc _).trans q1⟩
theorem c3J(R:js w l F A D K)(G:Good K)(b c:Int)(d:s<K.nS)(f:a<4) :
  aF V 36 #[Po (J (O l 0 Q)),Y U s,Y U 15,.agg #[Y U a,Y U b,Y U c]] w (Ends l F A D w (N3 K s a)):=by
 have g:ar (js w l F A D K):=R;clear R
 go_enter bU,bK
 go_wp2_with fail
 refine(Up (g.out.alloc _) G b c d f).mono ?_;rintro e h ⟨rfl,R1,q1⟩
 go_wp2
 go_ret2
 exact⟨Z,R1,((dT.refl w).alloc _).trans q1⟩
theorem c9Q(R:js w l F A D K)(G:Good K)(o m a b c:Int)(s n:Nat)(p:o=s)(q:m=n)(e:s<K.nS)(y:n<20)(r:C8 K ((i7 n).getD 0 0) a=true/\C8 K ((i7 n).getD 1 0) b=true/\C8 K ((i7 n).getD 2 0) c=true) :
  aF V 36 #[Po (J (O l 0 Q)),Y U o,Y U m,.agg #[Y U a,Y U b,Y U c]] w (Ends l F A D w (tr K s n a b c)):=by
 by_cases t:IA m
 .exact c9T R G o m a b c t s n p q e r
 let⟨f,i,u⟩:=r;subst p;unfold IA at t;obtain rfl|rfl|rfl|rfl|rfl|rfl|rfl|rfl|rfl|rfl|rfl|rfl|rfl|rfl:n=0\/n=1\/n=3\/n=4\/n=5\/n=6\/n=7\/n=8\/n=9\/n=10\/n=11\/n=12\/n=14\/n=15:=by omega
 all_goals subst q
 .exact SU R a b c
 .exact Uu R a b c
 .obtain⟨g,rfl,h⟩:=y9 (t:=4) f Zb;exact c3N R G b c e (by have d:j4 K 4=4:=Z;omega)
 .obtain⟨g,rfl,h⟩:=y9 (t:=4) f Zb;exact b7p R b c e (by have d:j4 K 4=4:=Z;omega)
 .obtain⟨g,rfl,h⟩:=y9 (t:=2) f Zb;obtain⟨j,rfl,k⟩:=y9 (t:=1) i Zb;exact c3K R c e (by have d:j4 K 2=K.nS:=Z;omega) (by have d:j4 K 1=K.nF:=Z;omega)
 .obtain⟨g,rfl,h⟩:=y9 (t:=2) f Zb;obtain⟨j,rfl,k⟩:=y9 (t:=4) i Zb;obtain⟨v,rfl,x⟩:=y9 (t:=1) u Zb;exact TR R G e (by have d:j4 K 2=K.nS:=Z;omega) (by have d:j4 K 4=4:=Z;omega) (by have d:j4 K 1=K.nF:=Z;omega)
 .obtain⟨g,rfl,h⟩:=y9 (t:=2) f Zb;obtain⟨j,rfl,k⟩:=y9 (t:=5) i Zb;obtain⟨v,rfl,x⟩:=y9 (t:=5) u Zb;exact c7C R G e (by have d:j4 K 2=K.nS:=Z;omega) (by have d:j4 K 5=4:=Z;omega) (by have d:j4 K 5=4:=Z;omega)
 .obtain⟨g,rfl,h⟩:=y9 (t:=2) f Zb;exact Rh R b c e (by have d:j4 K 2=K.nS:=Z;omega)
 .exact c7B R a b c e
 .obtain⟨g,rfl,h⟩:=y9 (t:=2) f Zb;obtain⟨j,rfl,k⟩:=y9 (t:=4) i Zb;exact Wr R G c e (by have d:j4 K 2=K.nS:=Z;omega) (by have d:j4 K 4=4:=Z;omega)
 .obtain⟨g,rfl,h⟩:=y9 (t:=2) f Zb;obtain⟨j,rfl,k⟩:=y9 (t:=5) i Zb;exact c7I R G c e (by have d:j4 K 2=K.nS:=Z;omega) (by have d:j4 K 5=4:=Z;omega)
 .obtain⟨g,rfl,h⟩:=y9 (t:=2) f Zb;exact XI R G b c e (by have d:j4 K 2=K.nS:=Z;omega)
 .obtain⟨g,rfl,h⟩:=y9 (t:=5) f Zb;obtain⟨j,rfl,k⟩:=y9 (t:=5) i Zb;exact c9R R G c e (by have d:j4 K 5=4:=Z;omega) (by have d:j4 K 5=4:=Z;omega)
 .obtain⟨g,rfl,h⟩:=y9 (t:=5) f Zb;exact c3J R G b c e (by have d:j4 K 5=4:=Z;omega)
theorem Ol(R:js w l F A D K)(T:qn w)(G:Good K)(d e a b c:Int) :
  aF V 16 #[Po (J (O l 0 Q)),Y U d,Y U e,.agg #[Y U a,Y U b,Y U c]] w (Ends l F A D w (i5 K d e a b c)) :=
 c3r R T d e a b c λs n f g h i j m k=>c9Q k G d e a b c s n f g h i j
theorem E1{P:Pg}{w:Wd}(a o c:Ti)(b g n m:Nat)(p:P.underlying a=J (.slice c))(q:(P.info? c).map (·.size)=J m)(r:H.length=n*m)(t:∀j v,H[j]?=J v->w.cell? (((O g 0 Q):cx).add j)=J v)(e:w.there b 0 H.length)(u:∀v∈H,v.oneCell'=true) :
  (dp #[a,a] o #[Sc (J (O b 0 Q)) n n,Sc (J (O g 0 Q)) n n]).run P w=.ok (goInt n) (w.setCells b 0 H):=by
 have f:=run_loadCells_list (P:=P) w (O g 0 Q) H t;have h:=jL (P:=P) b 0 H 0 w (λj d=>by simpa using(e j d).1) (λj d=>by simpa using(e j d).2) u
 cases k:P.info? c with
 | none=>simp[k]at q
 | some i =>
  have x:i.size=m:=by grind
  rw[r]at f;simp only[jZ]at h;simp[dp,gQ p,mO,kH,sizeOf,typeInfo,k,x,f,h]
theorem El{a:Pg}{w:Wd}{b:List aL}{Q:Exit->cZ->Wd->Prop}(d:r.guard=G')(s x:aS)(t:Ti)(e:r.op=Op.call { callee:=Callee.builtin Builtin.copy,args:=#[s,x],argTypes:=#[t,t] })(v u c:Vu)(g:R.eval s=v)(i:R.eval x=u)(j:(dp #[t,t] r.type #[v,u]).run a w=.ok c f)(h:iR a P Q b (R.put r.dst c) f):iR a P Q (r::b) R w:=by
 refine wpList_plain d λK k=>?_;unfold Oper.wp;simp[Ex,e,resolve,invoke,builtin,g,i,j,Result.andThen];exact k _ _ h
def U9(K:aa)(j:Nat):dM:=Y U (K.F (j / 6) (j%6))
def A7(K:aa)(j:Nat):dM:=if 4<=j%20/\j%20<=18/\(j%20)%2=0 then Bo (K.B (j / 20) (j%20)) else Y U (K.S (j / 20) (j%20))
def sX(K:aa)(j:Nat):dM:=Y U (K.D (j / 5) (j%5))
theorem js.AF(R:js w l F A D K)(b:a<K.nF*6):w.cell? (O F a Q)=J (U9 K a):=by
 have:=R.f (a / 6) (a%6) Za Za;rw[show a / 6*6+a%6=a by omega]at this;exact this
theorem js.AU(R:js w l F A D K)(b:a<K.nS*20):w.cell? (O A a Q)=J (A7 K a):=by
 unfold A7;split
 .have:=R.b (a / 20) (a%20) Za (by assumption);rw[show a / 20*20+a%20=a by omega]at this;exact this
 .have:=R.s (a / 20) (a%20) Za Za (by assumption);rw[show a / 20*20+a%20=a by omega]at this;exact this
theorem js.Bt(R:js w l F A D K)(b:a<K.nD*5):w.cell? (O D a Q)=J (sX K a):=by
 have:=R.d (a / 5) (a%5) Za Za;rw[show a / 5*5+a%5=a by omega]at this;exact this
theorem Ug(g n:Nat)(p:n<=32)(f:Nat->Vu){w:Wd}(q:g<w.heap.size)(i:∀j,j<n*6->w.cell? (O g j Q)=J (f j))(k:∀j,(f j).oneCell'=true) :
  aF V 57 #[Sc (J (O g 0 Q)) n n] w λe d=>e=.returned (Sc (J (O w.heap.size 0 Q)) n n)/\bE w.heap.size w d/\d.heap.size=w.heap.size+1/\d.rowIs w.heap.size 71 (n*6) f:=by
 let⟨C,m,u⟩:=Nb n p w;have c:=K7 w C 71;rw[m]at c;have o:∀h,(dp #[66,66] h #[Sc (J (O w.heap.size 0 Q)) n n,Sc (J (O g 0 Q)) n n]).run V (w.alloc (.cells C 71))=.ok (goInt n) ((w.alloc (.cells C 71)).setCells w.heap.size 0 ((aO (n*6)).map f)) :=
  λh=>E1 _ _ 71 _ _ n 6 Tryz.underlying66 Zd Zc (λj v a=>by
   have b:j<n*6:=by have:=(bD.1 a).1;simpa using this
   rw[eG,aE,Zf (w:=w) (a:=(O g j Q)) (aJ _ _ _ q),i j b,←a,bO,cW b];rfl) (by simpa using D5 c Za) λv a=>by simp at a;obtain⟨j,_,rfl⟩:=a;exact k j
 have r:ar (∀h,_):=o;have t:ar _:=c;clear o m c i k
 go_enter Tryz.func57,Tryz.ntmps57
 go_wp2_with (refine El Z _ _ 66 Z (Sc (J (O w.heap.size 0 Q)) n n) (Sc (J (O g 0 Q)) n n) (goInt n) Z Z (r.out _) ?_)
 go_ret
 refine⟨Z,p9 (af _) _ _ ((bz _ _).alloc (af _) _),by rw[l8];simp,(C4 _ 0 t.out).congr λj b=>?_⟩;rw[mZ (by simp;exact b),kY,cG,bO,cW b];rfl
theorem Xp(g n:Nat)(p:n<=32)(f:Nat->Vu){w:Wd}(q:g<w.heap.size)(i:∀j,j<n*20->w.cell? (O g j Q)=J (f j))(k:∀j,(f j).oneCell'=true) :
  aF V 58 #[Sc (J (O g 0 Q)) n n] w λe d=>e=.returned (Sc (J (O w.heap.size 0 Q)) n n)/\bE w.heap.size w d/\d.heap.size=w.heap.size+1/\d.rowIs w.heap.size 82 (n*20) f:=by
 let⟨C,m,u⟩:=Ka n p w;have c:=K7 w C 82;rw[m]at c;have o:∀h,(dp #[72,72] h #[Sc (J (O w.heap.size 0 Q)) n n,Sc (J (O g 0 Q)) n n]).run V (w.alloc (.cells C 82))=.ok (goInt n) ((w.alloc (.cells C 82)).setCells w.heap.size 0 ((aO (n*20)).map f)) :=
  λh=>E1 _ _ 82 _ _ n 20 Tryz.underlying72 Zd Zc (λj v a=>by
   have b:j<n*20:=by have:=(bD.1 a).1;simpa using this
   rw[eG,aE,Zf (w:=w) (a:=(O g j Q)) (aJ _ _ _ q),i j b,←a,bO,cW b];rfl) (by simpa using D5 c Za) λv a=>by simp at a;obtain⟨j,_,rfl⟩:=a;exact k j
 have r:ar (∀h,_):=o;have t:ar _:=c;clear o m c i k
 go_enter Tryz.func58,Tryz.ntmps58
 go_wp2_with (refine El Z _ _ 72 Z (Sc (J (O w.heap.size 0 Q)) n n) (Sc (J (O g 0 Q)) n n) (goInt n) Z Z (r.out _) ?_)
 go_ret
 refine⟨Z,p9 (af _) _ _ ((bz _ _).alloc (af _) _),by rw[l8];simp,(C4 _ 0 t.out).congr λj b=>?_⟩;rw[mZ (by simp;exact b),kY,cG,bO,cW b];rfl
theorem a8M(g n:Nat)(p:n<=32)(f:Nat->Vu){w:Wd}(q:g<w.heap.size)(i:∀j,j<n*5->w.cell? (O g j Q)=J (f j))(k:∀j,(f j).oneCell'=true) :
  aF V 59 #[Sc (J (O g 0 Q)) n n] w λe d=>e=.returned (Sc (J (O w.heap.size 0 Q)) n n)/\bE w.heap.size w d/\d.heap.size=w.heap.size+1/\d.rowIs w.heap.size 87 (n*5) f:=by
 let⟨C,m,u⟩:=MK n p w;have c:=K7 w C 87;rw[m]at c;have o:∀h,(dp #[83,83] h #[Sc (J (O w.heap.size 0 Q)) n n,Sc (J (O g 0 Q)) n n]).run V (w.alloc (.cells C 87))=.ok (goInt n) ((w.alloc (.cells C 87)).setCells w.heap.size 0 ((aO (n*5)).map f)) :=
  λh=>E1 _ _ 87 _ _ n 5 Tryz.underlying83 Zd Zc (λj v a=>by
   have b:j<n*5:=by have:=(bD.1 a).1;simpa using this
   rw[eG,aE,Zf (w:=w) (a:=(O g j Q)) (aJ _ _ _ q),i j b,←a,bO,cW b];rfl) (by simpa using D5 c Za) λv a=>by simp at a;obtain⟨j,_,rfl⟩:=a;exact k j
 have r:ar (∀h,_):=o;have t:ar _:=c;clear o m c i k
 go_enter Tryz.func59,Tryz.ntmps59
 go_wp2_with (refine El Z _ _ 83 Z (Sc (J (O w.heap.size 0 Q)) n n) (Sc (J (O g 0 Q)) n n) (goInt n) Z Z (r.out _) ?_)
 go_ret
 refine⟨Z,p9 (af _) _ _ ((bz _ _).alloc (af _) _),by rw[l8];simp,(C4 _ 0 t.out).congr λj b=>?_⟩;rw[mZ (by simp;exact b),kY,cG,bO,cW b];rfl
structure qa (w:Wd) (gF gS gD:Nat) (K:aa):Prop where
 f:w.rowIs gF 71 (K.nF*6) (U9 K)
 s:w.rowIs gS 82 (K.nS*20) (A7 K)
 d:w.rowIs gD 87 (K.nD*5) (sX K)
theorem qa.same{w w':Wd}{K:aa}(S:qa w a b c K)(h:∀k,k=a\/k=b\/k=c->w'.heap[k]?=w.heap[k]?):qa w' a b c K :=
 ⟨S.f.of_block (h _ Zc),S.s.of_block (h _ Zc),S.d.of_block (h _ Zc)⟩
theorem Nt(K:aa)(j:Nat):(U9 K j).oneCell'=true:=rfl
theorem Nm(K:aa)(j:Nat):(sX K j).oneCell'=true:=rfl
theorem ON(K:aa)(j:Nat):(A7 K j).oneCell'=true:=by unfold A7;split<;>rfl
theorem OL{w:Wd}(b:bE (w.alloc (.cells i x)).drew.heap.size (w.alloc (.cells i x)).drew f)(c:bE f.heap.size f g)(k:bE g.heap.size g h) :
  (∀a,h.cell? (O w.heap.size a Q)=i[a]?)/\(∀a,h.frozen? (O w.heap.size a Q)=false):=by
 have d:w.heap.size<(w.alloc (.cells i x)).drew.heap.size:=by show w.heap.size<(w.alloc (.cells i x)).heap.size;simp
 have j:=Zg d b.size;have m:=Zg j c.size;have e:h.heap[w.heap.size]?=(w.alloc (.cells i x)).heap[w.heap.size]?:=(k.block _ m).trans ((c.block _ j).trans (b.block _ d));exact⟨λa=>(Zf (w:=w.alloc (.cells i x)) (a:=(O w.heap.size a Q)) e).trans (World.cell?_alloc_at _ _ _ _ Z),λa=>(dH (w:=w.alloc (.cells i x)) (a:=(O w.heap.size a Q)) e).trans (World.frozen?_alloc_at _ _ _ _ Z)⟩
def rN(K:aa)(a b c:Nat):dM:=.agg #[Sc (J (O a 0 Q)) K.nF K.nF,Sc (J (O b 0 Q)) K.nS K.nS,Sc (J (O c 0 Q)) K.nD K.nD]
def wb(K:aa)(g:Nat):List dM:=[Sc (J (O (g+1) 0 Q)) K.nF K.nF,Sc (J (O (g+1+1) 0 Q)) K.nS K.nS,Sc (J (O (g+1+1+1) 0 Q)) K.nD K.nD]
theorem c2f{K:aa}(c:∀i,f.cell? (O a i Q)=(#[di Q 0 0,di Q 0 0,di Q 0 0]:Array Vu)[i]?)(d:∀i,f.frozen? (O a i Q)=false):f.there a 0 (wb K b).length:=λj e=>by
 have g:j<3:=e;refine⟨?_,?_⟩
 .rw[c];match j,g with|0,_=>rfl|1,_=>rfl|2,_=>rfl
 .exact d _
theorem SZ{w:Wd}{K:aa}(c:bE (w.alloc (.cells i x)).drew.heap.size (w.alloc (.cells i x)).drew f)(b:bE f.heap.size f g)(a:bE g.heap.size g h)(n:f.heap.size=(w.alloc (.cells i x)).drew.heap.size+1)(o:g.heap.size=f.heap.size+1)(p:f.rowIs (w.alloc (.cells i x)).drew.heap.size 71 (K.nF*6) (U9 K))(q:g.rowIs f.heap.size 82 (K.nS*20) (A7 K))(r:h.rowIs g.heap.size 87 (K.nD*5) (sX K)) :
  ∃e j m,Ending.returned (.agg (wb K w.heap.size).toArray)=.returned (rN K e j m)/\bE w.heap.size w (h.setCells w.heap.size 0 (wb K w.heap.size))/\qa (h.setCells w.heap.size 0 (wb K w.heap.size)) e j m K/\w.heap.size<=e/\w.heap.size<=j/\w.heap.size<=m:=by
 have t:(w.alloc (.cells i x)).drew.heap.size=w.heap.size+1:=by show(w.alloc (.cells i x)).heap.size=_;simp
 rw[t]at n p;rw[n]at o q;rw[o]at r;refine⟨w.heap.size+1,w.heap.size+1+1,w.heap.size+1+1+1,Z,p9 (af _) _ _ ?_,?_,by omega,by omega,by omega⟩
 .have d:bE w.heap.size w (w.alloc (.cells i x)):=(bz _ _).alloc (af _) _;refine⟨?_,?_,?_,?_,λk u=>?_⟩
  .rw[a.os,b.os,c.os];exact d.os
  .rw[a.tape,b.tape,c.tape];exact d.tape
  .rw[a.output,b.output,c.output];exact d.output
  .have:=a.size;omega
  .exact(a.block k Za).trans ((b.block k Za).trans ((c.block k Za).trans (d.block k u)))
 .refine qa.same (w:=h) ⟨(p.of_block (b.block _ Za)).of_block (a.block _ Za),q.of_block (a.block _ Za),r⟩ ?_;rintro k (rfl|rfl|rfl)<;>exact I3 Za _ _ _
theorem Nf(R:js w l F A D K) :
  aF V 33 #[Po (J (O l 0 Q))] w λe b=>∃n p q,e=.returned (rN K n p q)/\bE w.heap.size w b/\qa b n p q K/\w.heap.size<=n/\w.heap.size<=p/\w.heap.size<=q:=by
 have c:ar (js w l F A D K):=R;have C:=λo=>(c.out.alloc o).k0;have E:=λo=>(c.out.alloc o).k1;have H:=λo=>(c.out.alloc o).k2;have r:ar (K.nF<=32/\K.nS<=6/\K.nD<=4):=⟨R.hF,R.hS,R.hD⟩;have u:w.heap.size≠l:=World.new_ne w (O l 0 Q) R.k0;have I:l≠w.heap.size:=aA u;clear R
 go_enter Tryz.func33,Tryz.ntmps33
 go_wp2_with fail
 go_region_held3 (λb=>b.cell? (O l 0 Q)=J (Sc (J (O F 0 Q)) K.nF K.nF)/\b.cell? (O l 1 Q)=J (Sc (J (O A 0 Q)) K.nS K.nS)/\b.cell? (O l 2 Q)=J (Sc (J (O D 0 Q)) K.nD K.nD)) ((repeat' apply db)<;>(first|assumption|(go_keep;done)))
  (first|(go_at_call 57;refine(Ug F K.nF r.out.1 (U9 K) (c.out.alloc _).drew.lf (λj g=>(c.out.alloc _).drew.AF g) (Nt K)).mono ?_;rintro e v ⟨rfl,b1,z1,r1⟩;have d:ar (js v l F A D K):=(c.out.alloc _).drew.same b1.size λk h _=>b1.block k h;have L:=d.out.k0;have N:=d.out.k1;have P:=d.out.k2)|(go_at_call 58;refine(Xp A K.nS (by have:=r.out;omega) (A7 K) d.out.ls (λj g=>d.out.AU g) (ON K)).mono ?_;rintro e x ⟨rfl,b2,z2,r2⟩;have f:ar (js x l F A D K):=d.out.same b2.size λk h _=>b2.block k h;have S:=f.out.k0;have T:=f.out.k1;have W:=f.out.k2)|(go_at_call 59;refine(a8M D K.nD (by have:=r.out;omega) (sX K) f.out.ld (λj g=>f.out.Bt g) (Nm K)).mono ?_;rintro e a ⟨rfl,b3,z3,r3⟩;have t:ar (js a l F A D K):=f.out.same b3.size λk h _=>b3.block k h;have G:=t.out.k0;have M:=t.out.k1;have X:=t.out.k2;have i:=(OL b1 b2 b3).1;have m:=(OL b1 b2 b3).2;have y0:a.cell? (O w.heap.size 0 Q)=J (Sc Q 0 0):=i 0;have y1:a.cell? (O w.heap.size 1 Q)=J (Sc Q 0 0):=i 1;have y2:a.cell? (O w.heap.size 2 Q)=J (Sc Q 0 0):=i 2;have f0:=m 0;have f1:=m 1;have f2:=m 2;have y:ar (a.there w.heap.size 0 (wb K w.heap.size).length):=c2f i m))
 rename_i z K1 B hH;refine B _ _ ?_;subst z;refine wp_ret ?_;show bodyPost _ _ _ _ _ (a.setCells w.heap.size 0 (wb K w.heap.size));refine bodyPost_ret (v:=.agg (wb K w.heap.size).toArray) (EZ Tryz.results33 (a.setCells w.heap.size 0 (wb K w.heap.size)) w.heap.size (wb K w.heap.size) Z (fy a w.heap.size 0 _ y.out) Tryz.underlying109 Z Zd) Z<|SZ b1 b2 b3 z1 z2 r1 r2 r3
end
section
open Go.Conc (G)
variable{a b c d e:Nat}{f g h:Wd}{i j:Array Vu}{k l:Vu}{m n o p q:Int}{r s:aL}{t u v w:Bool}{x y:Ti}{z A:aS}{B C:List Nat}{D:Gr->Wd->Prop}{E:List Fm'}{F:Func}{H:List Vu}{I:List ng}{K:Obj}{L N:Type}{P:Array aL}{R:cZ}{S:Fm'}{T:Nat->Nat}{W:List fj}
structure Ctx where
 o:ng
 slot:Int
 kd:Int
 A:Int
 B:Int
 bk:Nat
 bf:Nat
 bs:Nat
 bd:Nat
structure Env (C:Ctx) (l:List ng) (K:aa) (w:Wd):Prop where
 rep:js w C.bk C.bf C.bs C.bd K
 oq:qn w
 inv:rC K
 fit:Fit (ep l) w
 ko:KO l w
 ap:∀o∈l,o.bo≠C.bk/\o.bo≠C.bf/\o.bo≠C.bs/\o.bo≠C.bd/\o.bo≠0
theorem zL(h:Lk T f g){a:cx}(b:T a.block=0):f.frozen? a=g.frozen? a:=by
 simp only[bR,h.heap,b]
 cases g.heap[a.block]? with
 | none=>rfl
 | some o=>cases o<;>rfl
theorem Ca{w:Wd}{K:aa}(h:Lk T f w)(k:T b=0)(l:T c=0)(m:T d=0)(R:js w a b c d K):js f a b c d K :=
 ⟨by rw[h.cell];exact R.k0,by rw[h.cell];exact R.k1,by rw[h.cell];exact R.k2,λi e g j=>by rw[h.cell];exact R.f i e g j,λi e g j n=>by rw[h.cell];exact R.s i e g j n,λi e g j=>by rw[h.cell];exact R.b i e g j,
  λi e g j=>by rw[h.cell];exact R.d i e g j,λo=>by rw[zL h k];exact R.zf o,λo=>by rw[zL h l];exact R.zs o,λo=>by rw[zL h m];exact R.zd o,
  by rw[h.size];exact R.lk,by rw[h.size];exact R.lf,by rw[h.size];exact R.ls,by rw[h.size];exact R.ld,R.kf,R.ks,R.kd,R.fs,R.fd,R.sd,R.hF,R.hS,R.hD⟩
theorem HK{K:aa}(h:Lk T f g)(l:T b=0)(m:T c=0)(n:T d=0)(R:js f a b c d K):js g a b c d K :=
 ⟨by rw[←h.cell];exact R.k0,by rw[←h.cell];exact R.k1,by rw[←h.cell];exact R.k2,λi e j k=>by rw[←h.cell];exact R.f i e j k,λi e j k p=>by rw[←h.cell];exact R.s i e j k p,λi e j k=>by rw[←h.cell];exact R.b i e j k,
  λi e j k=>by rw[←h.cell];exact R.d i e j k,λo=>by rw[←zL h l];exact R.zf o,λo=>by rw[←zL h m];exact R.zs o,λo=>by rw[←zL h n];exact R.zd o,
  by rw[←h.size];exact R.lk,by rw[←h.size];exact R.lf,by rw[←h.size];exact R.ls,by rw[←h.size];exact R.ld,R.kf,R.ks,R.kd,R.fs,R.fd,R.sd,R.hF,R.hS,R.hD⟩
theorem PI(h:Lk T f g)(b:qn g):qn f:=⟨λi a=>by rw[h.cell];exact b.t i a,λi j a c=>by rw[h.cell];exact b.a i j a c⟩
structure Alike (C:Ctx) (w w':Wd):Prop where
 size:w.heap.size<=w'.heap.size
 block:∀k,k<w.heap.size->k≠C.bf->k≠C.bs->k≠C.bd->w'.heap[k]?=w.heap[k]?
theorem Env.zero{C:Ctx}{K:aa}(E:Env C I K f):ep I C.bf=0/\ep I C.bs=0/\ep I C.bd=0 :=
 ⟨U7 λo a=>(E.ap o a).2.1,U7 λo a=>(E.ap o a).2.2.1,U7 λo a=>(E.ap o a).2.2.2.1⟩
theorem c4L{C:Ctx}(h:KO I f)(b:∀o∈I,o.bo≠C.bk/\o.bo≠C.bf/\o.bo≠C.bs/\o.bo≠C.bd/\o.bo≠0)(A:Alike C f g):KO I g:=by
 intro o a;let⟨c,t,d,e⟩:=h o a;let⟨_,i,j,k,_⟩:=b o a;exact⟨c,t,by rw[A.block _ (KO.lt h a) i j k];exact d,e⟩
theorem b7T{C:Ctx}{K:aa}(E:Env C I K f)(n:0≠C.bf/\0≠C.bs/\0≠C.bd)(s:Bool)(d i a b c:Int)(o:Fm')(p:List Fm') :
  l6 V s (DL true (ep I)) (λg l=>g=G (o.finish (.tuple #[Y U (i5 K d i a b c).n,Y U (i5 K d i a b c).e])) p/\Env C I (i5 K d i a b c).K l/\Alike C f l)
   (G (ay V 16 #[Po (J (O C.bk 0 Q)),Y U d,Y U i,.agg #[Y U a,Y U b,Y U c]] .normal) (o::p)) f:=by
 let⟨t,u,w⟩:=E.zero;have y:=λv (j:Lk (ep I) v f)=>Ol (Ca j t u w E.rep) (PI j E.oq) E.inv.mL d i a b c
 refine(xU xn Zd E.fit s (Q:=λx m=>x=.tuple #[Y U (i5 K d i a b c).n,Y U (i5 K d i a b c).e]/\js m C.bk C.bf C.bs C.bd (i5 K d i a b c).K/\∃v,Lk (ep I) v f/\dT C.bf C.bs C.bd v m)
  (λv j=>(y v j).mono λe m z=>by
   obtain⟨rfl,q,r⟩:=z
   exact⟨Z,q,v,j,r⟩) o p).keep.mono (λ_ _ _ h=>h) ?_
 rintro g l ⟨⟨x,m,rfl,hl',rfl,hR,v,hl,hk⟩,hkp⟩;have A:Alike C f l:=⟨by rw[←hl.size,←hl'.size];exact hk.size,λk B q r D=>C5 hkp hl hl' (hk.block k (by rw[hl.size];exact B) q r D)⟩;exact⟨Z,⟨HK hl' t u w hR,E.oq.same (A.block 0 E.oq.lt n.1 n.2.1 n.2.2),yQ E.inv _ _ _ _ _,hl'.fit,c4L E.ko E.ap A,E.ap⟩,A⟩
end
section
open Go.Conc
variable{a b c d e:Nat}{f g h:Wd}{i j:Array Vu}{k l:Vu}{m n o p q:Int}{r s:aL}{t u v w:Bool}{x y:Ti}{z A:aS}{B C:List Nat}{D:Gr->Wd->Prop}{E:List Fm'}{F:Func}{H:List Vu}{I:List ng}{K:Obj}{L N:Type}{P:Array aL}{R:cZ}{S:Fm'}{T:Nat->Nat}{W:List fj}
abbrev pO(o:ng):dM:=Po (J (O o.bo 0 Q))
def AY:List bh :=
 match Tryz.f106.body with
 | some (.seq _ (.seq _ (.seq (.region _ ops _) c)))=>[.inRegion ops [0,1,2,3],.code c]
 | _=>[]
def N9(o:ng)(a:List Fm'):Gr :=
 G ((aQ 106).at ⟨#[pO o,Ud,Bo false,pO o,pO o,pO o,.chan (J o.tu),pO o,pO o,Po (J (O o.bo 2 Q)),.chan (J o.en),Ud,Ud,Ud,Ud,Ud,Ud,Ud],[]⟩ AY) a
def J0(o:ng)(a:List Fm'):eZ:={ cases:=#[rcase o.tu (.agg #[]),rcase o.en (.agg #[])],shape:=.select,home:=λg=>g=N9 o a }
theorem uv(h:KO I f){o:ng}(b:o∈I):f.cell? (O o.bo 0 Q)=J (.chan (J o.tu))/\f.cell? (O o.bo 1 Q)=J (.chan (J o.to))/\f.cell? (O o.bo 2 Q)=J (.chan (J o.en))/\(∀i,f.frozen? (O o.bo i Q)=false):=by
 let⟨c,t,a,d,e,g⟩:=h o b;refine⟨by simp[aC,a,d],by simp[aC,a,e],by simp[aC,a,g],λi=>by simp[bR,a]⟩
theorem c9h(o:ng)(l:List ng)(B:Nat)(a:List Fm'):AtIn V false (KO l) (SP l no) B (J0 o a) (N9 o a) (N9 o a):=by
 unfold N9 AY;simp only[jo]
 exact atIn_of (s:=J0 o a) Z Z Zb (λw=>by simp[go_sem,Ex,rcase,dj,J0]) (λw=>by simp[go_sem,Ex,dj]) (by
  simp only[J0,N9,AY,jo])
def Ib:jj:=(Tryz.f106.body).getD .skip
theorem Tl(o:ng):ay V 106 #[pO o] .normal=(aQ 106).at ⟨#[pO o,Ud,Ud,Ud,Ud,Ud,Ud,Ud,Ud,Ud,Ud,Ud,Ud,Ud,Ud,Ud,Ud,Ud],[]⟩ [.code Ib]:=by
 rw[enter_at (c:=Ib) _ jm Z];rfl
theorem MM(o:ng)(l:List ng)(a:o∈l)(B:Nat)(f:∀o∈l,o.bo<B)(b:List Fm')(w:Wd) :
  Goes V false (RK (KO l)) (DS (SP l no) B) (λg _=>∃i,AtIn V false (KO l) (SP l no) B (J0 o b) g i) 20 (G (ay V 106 #[pO o] .normal) b) w:=by
 rw[Tl];simp only[Ib,jo,cU,pO]
 repeat
  refine cK Z λj c=>?_
  first
  | ((first|rw[stepG_seq]|rw[stepG_region_end]|rw[stepG_region]);simp only[iK,aY,cI,kC,Nat.reduceAdd,aE,aO,List.range.loop];refine⟨iL _,?_⟩;clear c)
  | (refine eV Z Z Zb λK h=>?_;let⟨k,m,n,p⟩:=uv c a;go_simp;refine h _ _ ⟨⟨Z,λe q=>by(have d:=cA q;first|(simp[go_sem]at d;done)|(simp[go_sem, *]at d;subst d;first|exact evC_read _ (.inl ⟨o,a,0,by omega,Z⟩) (f o a)|exact evC_read _ (.inl ⟨o,a,2,by omega,Z⟩) (f o a)))⟩,?_⟩;clear h K k m n p c)
 exact Goes.stop λj c=>⟨N9 o b,c9h o l B b⟩
theorem Z9{b:Pg}{k:List bh}{f:bC}{c:jj}{d:Array aS}{j:Array Ti}(l:P[a]?=J r)(m:bM r (fh P R.tmps)=true)(n:S.kind≠.early)(e:r.op=.call { callee:=.value (.func f),args:=d,argTypes:=j })(g:b.funcs[f]?=J F)(h:(F.name== "runtime.NumGoroutine")=false)(o:F.body=J c){vs:Array Vu}(p:d.map R.eval=vs)(u:Wd) :
  bF b t (G (S.at R (.inRegion P (a::B)::k)) E) u=.go (G (ay b f vs .normal) (S.at R (.inRegion P (a::B)::k)::E)) u #[]:=by
 subst p;have i:F.body.isNone=false:=by rw[o];rfl
 rw[stepG_enter l m n (run_call_body e g h i)];have:me b S.fn R r u=#[]:=by unfold me;rw[events_call_body e g h i];exact seen_none b _
 rw[this]
def Cc:jj:=(Tryz.f128.body).getD .skip
def td(o:ng):Fm' :=
 match Tryz.f128.body with
 | some (.seq _ (.seq _ (.seq _ (.seq (.region _ ops _) c))))=>(aQ 128).at ⟨#[pO o,Ud,Bo false,pO o,pO o,Po (J (O o.bo 11 Q)),Bo false,pO o,pO o,Po (J (O o.bo 1 Q)),.chan (J o.to),.agg #[],pO o,Ud],[]⟩ [.inRegion ops [1,2],.code c]
 | _=>dR
def vE(o:ng)(a:List Fm'):Gr :=
 match Tryz.f128.body with
 | some (.seq _ (.seq _ (.seq (.region _ ops _) c)))=>G ((aQ 128).at ⟨#[pO o,Ud,Bo false,pO o,pO o,Po (J (O o.bo 11 Q)),Bo false,pO o,pO o,Po (J (O o.bo 1 Q)),.chan (J o.to),.agg #[],Ud,Ud],[]⟩ [.inRegion ops [5],.code c]) a
 | _=>dR
theorem c2T{o:ng}:bF V false (vE o E) f=.comm (vE o E) #[scase o.to (.agg #[]) (.tuple #[])] true .send f #[]:=by
 unfold vE;simp only[jn];rw[stepG_comm (cases:=#[scase o.to (.agg #[]) (.tuple #[])]) (blocking:=true) (shape:=.send) (w':=f) Z Z Zb (by simp[go_sem,Ex,dj,scase]),listed_none (by simp[go_sem,Ex,dj])]
theorem UX(o:ng)(l:List ng)(f:o∈l)(B:Nat)(g:∀o∈l,o.bo<B)(c:List Fm'):Sits V false (KO l) (SP l no) B (J0 o (td o::c)) 26 (bG (vE o c) Ud):=by
 have h:=MM o l f B g (td o::c);refine .inl ⟨25,dR,Z,?_⟩;unfold vE td at *;simp only[jn,my]at *;rw[bI];refine cK Z λb a=>?_;rw[stepG_region_end];simp only[iK];refine⟨iL _,?_⟩;clear a;refine cK Z λb a=>?_;rw[stepG_seq];simp only[iK];refine⟨iL _,?_⟩;clear a;refine cK Z λb a=>?_;rw[stepG_region];simp only[iK,aY,cI,kC,Nat.reduceAdd,aE,aO,List.range.loop];refine⟨iL _,?_⟩;clear a;refine cK Z λb a=>eV Z Z Zb λK d=>?_;go_simp;refine d _ _ ⟨⟨Z,λe i=>by(have j:=cA i;simp[go_sem]at j)⟩,?_⟩;clear d K a;refine cK Z λb a=>?_;rw[Z9 Z Z Zb Z jm Z Z (vs:=#[pO o]) (by simp[dj])];simp only[iK];exact⟨iL _,h b⟩
abbrev AK:dM:=.tuple #[Y U 0,Bo true,.agg #[],.agg #[]]
abbrev Ai:dM:=.tuple #[Y U 1,Bo false,.agg #[],.agg #[]]
theorem c5Q(o:ng)(a:List Fm'):km (J0 o a).cases (J0 o a).shape ((0:Nat):Int) (.agg #[]) true=AK:=by
 simp[J0,km,rcase,jG,goInt]
theorem c8A(o:ng)(a:List Fm'):km (J0 o a).cases (J0 o a).shape ((1:Nat):Int) (.agg #[]) false=Ai:=by
 simp[J0,km,rcase,jG,goInt]
theorem PD{o:ng}(h:o.tu≠o.en):(J0 o E).Wf:=by
 refine⟨λd h=>?_,λk m c z e a b=>?_⟩
 .simp only[J0,dU,ae,aj,or_false]at h;rcases h with rfl|rfl
  .exact⟨_,_,Z⟩
  .exact⟨_,_,Z⟩
 .rcases k with _|_|k<;>rcases m with _|_|m<;>simp[J0,rcase]at a b ⊢<;>omega
theorem U6{o:ng}(h:(J0 o E).has a):a=o.tu\/a=o.en:=by
 let⟨k,z,b⟩:=h;rcases k with _|_|k<;>simp[J0,rcase]at b<;>omega
theorem NM{o:ng}(g:o∈I)(h:Clear f)(j:KO I f)(l:f.cell? (O o.bo 11 Q)=J k){Stop:Gr->Wd->Prop}(m:∀d,l6 V false (DL true (ep I)) Stop (G (S.finish (Bo true)) E) ((f.setCell (O o.bo 11 Q) (Bo true)).at d))(n:Nat) :
  l6 V false (DL true (ep I)) Stop (bG (N9 o (S::E)) AK) (f.at n):=by
 have p:=uv j g;have q:=p.2.2.2 11;unfold N9 AY;simp only[jo,my,pO];rw[bI];go_simp;(iterate 3(refine mo Z Z λd K a=>?_;go_simp;refine a _ _ ⟨Z,?_⟩;clear a K));refine i8 (λd=>?_) _;refine mc Z (λu=>stepG_block) λd=>mc Z (λu=>fN (t:=true) Z) λd=>?_;simp only[if_true,if_false,aI,↓reduceIte];refine B5 (λd=>?_) _;refine m8 (λd=>?_) _;simp only[rz,ix,Nat.reduceAdd];(iterate 3(refine mo Z Z λd K a=>?_;go_simp;refine a _ _ ⟨Z,?_⟩;clear a K));refine B9 Z Z Zb (λd K a=>?_) _;have c:(f.at d).cell? (O o.bo 11 Q)=J k:=l;have i:(f.at d).frozen? (O o.bo 11 Q)=false:=q;go_simp;refine a _ _ ⟨xx (by rw[Q2 g];show 3<=11;omega) (aK _ _ c) λe r=>?_,?_⟩
 .have b:=cA r;simp only[go_sem]at b;simp[go_sem]at b;rw[jl _ _ _ _ _ _ Z,c]at b;rw[i]at b;simp only[aI,if_false,gp,eP,dU,ae,aj,or_false]at b;exact b
 clear a K c i;rw[show(f.at d).setCell (O o.bo 11 Q) (Bo true)=(f.setCell (O o.bo 11 Q) (Bo true)).at d from Z];have h:Clear (f.setCell (O o.bo 11 Q) (Bo true)):=(V7 h.lk (aW _)).1.nz;refine i8 (λd=>?_) _;refine B5 (λd=>?_) _;refine m8 (λd=>?_) _;simp only[rz,ix,Nat.reduceAdd];refine mo Z Z λd K a=>?_;go_simp;refine a _ _ ⟨Z,?_⟩;clear a K;refine i8 (λd=>?_) _;refine ux (λd=>?_) _;exact Y4 (v:=Bo true) Z Z jm (kF (t:=2) Z _) (w:=f.setCell (O o.bo 11 Q) (Bo true)) m _
theorem MH{o:ng}(e:o∈I)(g:Clear f){Stop:Gr->Wd->Prop}(b:∀d,l6 V false (DL true (ep I)) Stop (G (S.finish (Bo false)) E) (f.at d))(c:Nat) :
  l6 V false (DL true (ep I)) Stop (bG (N9 o (S::E)) Ai) (f.at c):=by
 unfold N9 AY;simp only[jo,my,pO];rw[bI];go_simp;(iterate 3(refine mo Z Z λd K a=>?_;go_simp;refine a _ _ ⟨Z,?_⟩;clear a K));refine i8 (λd=>?_) _;refine mc Z (λu=>stepG_block) λd=>mc Z (λu=>fN (t:=false) Z) λd=>?_;simp only[if_true,if_false,aI,↓reduceIte];refine mc Z (λu=>fN (t:=true) Z) λd=>?_;simp only[if_true,if_false,aI,↓reduceIte];refine B5 (λd=>?_) _;refine m8 (λd=>?_) _;simp only[rz,ix,Nat.reduceAdd];refine mo Z Z λd K a=>?_;go_simp;refine a _ _ ⟨Z,?_⟩;clear a K;refine i8 (λd=>?_) _;refine ux (λd=>?_) _;exact Y4 (v:=Bo false) Z Z jm (kF (t:=2) Z _) b _
theorem NU(o:ng):ay V 128 #[pO o] .normal=(aQ 128).at ⟨#[pO o,Ud,Ud,Ud,Ud,Ud,Ud,Ud,Ud,Ud,Ud,Ud,Ud,Ud],[]⟩ [.code Cc]:=by
 rw[enter_at (c:=Cc) _ iV Z];rfl
variable{o:ng}{l:List ng}{w:Wd}{b:Fm'}{a:List Fm'}{Stop:Gr->Wd->Prop}
theorem Yg(h:Clear w)(e:w.cell? (O o.bo 11 Q)=J (Bo true))(f:∀d,l6 V false (DL true (ep l)) Stop (G (b.finish (Bo true)) a) (w.at d))(g:Nat) :
  l6 V false (DL true (ep l)) Stop (G (ay V 128 #[pO o] .normal) (b::a)) (w.at g):=by
 rw[NU];simp only[Cc,jn,cU,pO];refine B5 (λd=>?_) _;refine m8 (λd=>?_) _;simp only[rz,ix,Nat.reduceAdd];refine mo Z Z λd K c=>?_;go_simp;refine c _ _ ⟨Z,?_⟩;clear c K;refine i8 (λd=>?_) _;refine B5 (λd=>?_) _;refine B5 (λd=>?_) _;refine m8 (λd=>?_) _;simp only[rz,ix,Nat.reduceAdd];(iterate 3(refine mo Z Z λd K c=>?_;go_simp;refine c _ _ ⟨Z,?_⟩;clear c K));refine mo Z Z λd K c=>?_;have i:(w.at d).cell? (O o.bo 11 Q)=J (Bo true):=e;go_simp;refine c _ _ ⟨Z,?_⟩;clear c K;refine i8 (λd=>?_) _;refine mc Z (λu=>fN (t:=true) Z) λd=>?_;simp only[if_true,if_false,aI,↓reduceIte];refine B5 (λd=>?_) _;refine m8 (λd=>?_) _;simp only[rz,ix,Nat.reduceAdd];refine mo Z Z λd K c=>?_;go_simp;refine c _ _ ⟨Z,?_⟩;clear c K;refine i8 (λd=>?_) _;refine ux (λd=>?_) _;exact Y4 (v:=Bo true) Z Z iV (kF (t:=2) Z _) f _
theorem Uh(f:o∈l)(k:Clear w)(g:KO l w)(h:w.cell? (O o.bo 11 Q)=J (Bo false))(e:∀d,l6 V false (DL true (ep l)) Stop (vE o (b::a)) (w.at d))(i:Nat) :
  l6 V false (DL true (ep l)) Stop (G (ay V 128 #[pO o] .normal) (b::a)) (w.at i):=by
 have j:=(uv g f).2.1;rw[NU];unfold vE at e;simp only[Cc,jn,cU,pO]at *;refine B5 (λd=>?_) _;refine m8 (λd=>?_) _;simp only[rz,ix,Nat.reduceAdd];refine mo Z Z λd K c=>?_;go_simp;refine c _ _ ⟨Z,?_⟩;clear c K;refine i8 (λd=>?_) _;refine B5 (λd=>?_) _;refine B5 (λd=>?_) _;refine m8 (λd=>?_) _;simp only[rz,ix,Nat.reduceAdd];(iterate 3(refine mo Z Z λd K c=>?_;go_simp;refine c _ _ ⟨Z,?_⟩;clear c K));refine mo Z Z λd K c=>?_;have m:(w.at d).cell? (O o.bo 11 Q)=J (Bo false):=h;go_simp;refine c _ _ ⟨Z,?_⟩;clear c K;refine i8 (λd=>?_) _;refine mc Z (λu=>fN (t:=false) Z) λd=>?_;simp only[if_true,if_false,aI,↓reduceIte];refine Cz (λd=>?_) _;refine B5 (λd=>?_) _;refine m8 (λd=>?_) _;simp only[rz,ix,Nat.reduceAdd];(iterate 3(refine mo Z Z λd K c=>?_;go_simp;refine c _ _ ⟨Z,?_⟩;clear c K));refine mo Z Z λd K c=>?_;have n:(w.at d).cell? (O o.bo 1 Q)=J (.chan (J o.to)):=j;go_simp;refine c _ _ ⟨Z,?_⟩;clear c K;refine mo Z Z λd K c=>?_;go_simp;refine c _ _ ⟨Z,?_⟩;clear c K;exact e _
theorem LW(g:Clear w)(t:Bool)(e:∀d,l6 V false (DL true (ep l)) Stop (G (b.finish (Bo t)) a) (w.at d))(f:Nat) :
  l6 V false (DL true (ep l)) Stop (G ((td o).finish (Bo t)) (b::a)) (w.at f):=by
 unfold td;simp only[jn,pO];rw[bI];go_simp;refine mo Z Z λd K c=>?_;go_simp;refine c _ _ ⟨Z,?_⟩;clear c K;refine i8 (λd=>?_) _;refine ux (λd=>?_) _;exact Y4 (v:=Bo t) Z Z iV (kF (t:=2) Z _) e _
end
section
open Go.RowKit
variable{a b c d e:Nat}{f g h:Wd}{i j:Array Vu}{k l:Vu}{m n o p q:Int}{r s:aL}{t u v w:Bool}{x y:Ti}{z A:aS}{B C:List Nat}{D:Gr->Wd->Prop}{E:List Fm'}{F:Func}{H:List Vu}{I:List ng}{K:Obj}{L N:Type}{P:Array aL}{R:cZ}{S:Fm'}{T:Nat->Nat}{W:List fj}
def qH(P:Pg)(d:Nat)(t:Ti)(x y:Vu):Prop:=∃r,(∀w,(dm d t x y).run P w=.ok r w)/\(x=y->r=true)
def Pt(P:Pg)(t:Ti)(b:Array Vu)(o:Nat)(a:Vu):Prop:=∀w,(part t b o).run P w=.ok a w
variable{P:Pg}{d:Nat}{t:Ti}
theorem Pt.same(h:Pt P t i a k)(b:Pt P t i a l):k=l:=by
 have:=(h dR).symm.trans (b dR);injection this
theorem te(h:∀w,(isAgg t).run P w=.ok true w)(c:∀w,(sizeOf t).run P w=.ok b w):Pt P t i a (.agg (i.extract a (a+b))):=λw=>by
 simp[part,h,c]
theorem sG(h:∀w,(isAgg t).run P w=.ok false w)(b:i[a]?=J k):Pt P t i a k:=λw=>by
 simp[part,h,b]
theorem PF{k:IntKind}(h:P.underlying t=some (.int .i64))(a b:Int):qH P (d+1) t (.int .i64 a) (.int .i64 b) :=
 ⟨a==b,λw=>run_equalIn_int w d t .i64 .i64 a b h,λe=>by grind⟩
theorem c2m(h:P.underlying t=J .bool)(a b:Bool):qH P (d+1) t (Bo a) (Bo b) :=
 ⟨a==b,λw=>run_equalIn_bool' w d t a b h,λe=>by grind⟩
theorem LG:∀(c:List Field),(∀f∈c,f.name≠ "_" /\ ∃a b,Pt P f.type i f.offset a/\Pt P f.type j f.offset b/\qH P d f.type a b) ->
  ∃r,(∀w,(mG d i j c).run P w=.ok r w)/\(i=j->r=true)
 | [],_=>⟨true,λw=>by simp[mG],λ_=>rfl⟩
 | f::c,h=>by
  let⟨r,m,n⟩:=LG c λg o=>h g (by simp[o]);let⟨p,a,b,k,l,q,s,u⟩:=h f Zc;refine⟨q&&r,λw=>?_,λe=>?_⟩
  .rw[mG,mZ p];cases q<;>simp[k w,l w,s w,m w]
  .rw[n e,u (by subst e;exact k.same l)];rfl
theorem Z7(c:P.underlying t=J (.struct (P.fieldsOf t)))(g:P.stoodInHeld t=false)(h:∀f∈(P.fieldsOf t).toList,f.name≠ "_" /\ ∃a b,Pt P f.type i f.offset a/\Pt P f.type j f.offset b/\qH P d f.type a b):qH P (d+1) t (.agg i) (.agg j):=by
 let⟨r,k,l⟩:=LG (P:=P) (d:=d) _ h;exact⟨r,λw=>(run_equalIn_agg w d t i j c g).trans (k w),λe=>l (by injection e)⟩
theorem Fy(u:P.underlying t=J (.array a x))(v:∀w,(sizeOf x).run P w=.ok b w)(h:∀c,c<a->∃e f,Pt P x i (c*b) e/\Pt P x j (c*b) f/\qH P d x e f):qH P (d+1) t (.agg i) (.agg j):=by
 have H:∀c,∃q:Bool,c<a->∃e f,Pt P x i (c*b) e/\Pt P x j (c*b) f/\(∀w,(dm d x e f).run P w=.ok q w)/\(e=f->q=true):=λc=>by
  by_cases g:c<a
  .let⟨e,f,k,m,q,n,o⟩:=h c g;exact⟨q,λ_=>⟨e,f,k,m,n,o⟩⟩
  .exact⟨true,λh=>absurd h g⟩
 let⟨q,n⟩:=jk H;refine⟨(gR 0 a 1).all q,λw=>?_,λp=>?_⟩
 .rw[dm];simp only[bH,gQ u,aN,v,iG,ky,kY,Nat.add_sub_cancel,Nat.div_one];have r:∀c∈gR 0 a 1,c<a:=λc g=>by simpa using(List.mem_range'_1.1 g).2
  generalize gR 0 a 1=l at r ⊢
  induction l with
  | nil=>simp
  | cons c l y =>
   let⟨e,f,k,m,s,o⟩:=n c (r c Zc);simp only[List.forIn_cons,bH,k w,m w,s w,aN,List.all_cons];cases q c
   all_goals simp_all
 .rw[aT];intro c g;let⟨e,f,k,m,s,o⟩:=n c (by simpa using(List.mem_range'_1.1 g).2);injection p with p
  subst p;exact o (k.same m)
def Ky(t:Ti)(a b:List Vu)(r:Bool):Prop:=∀w,(binOp .neq t (.agg a.toArray) (.agg b.toArray)).run V w=.ok (Bo (!r)) w
theorem Ql{t:Ti}{a b:List Vu}(h:qH V 10000 t (.agg a.toArray) (.agg b.toArray)):∃r,Ky t a b r/\(a=b->r=true):=by
 let⟨r,c,f⟩:=h;exact⟨r,λw=>by rw[run_neq_struct,c w];rfl,λe=>f (by rw[e])⟩
def W8(a:Array Vu)(o:Nat):Prop:=∃v,a[o]?=J (Y U v)
def xg(a:Array Vu)(o:Nat):Prop:=∃v,a[o]?=J (Bo v)
theorem W8.cut{a:Nat}(h:W8 i (a+c))(f:a+c<b):W8 (i.extract a b) c:=by
 let⟨v,e⟩:=h;have:=(Zj e).1;exact⟨v,by rw[kI,mZ Za];exact e⟩
theorem xg.cut{a:Nat}(h:xg i (a+c))(f:a+c<b):xg (i.extract a b) c:=by
 let⟨v,e⟩:=h;have:=(Zj e).1;exact⟨v,by rw[kI,mZ Za];exact e⟩
theorem X4{d:Nat}{xs ys:Array Value}{o:Nat}(hx:W8 xs o)(hy:W8 ys o):∃a b,Pt Tryz.prog 3 xs o a/\Pt Tryz.prog 3 ys o b/\qH Tryz.prog (d+1) 3 a b:=by
 obtain⟨v,hv⟩:=hx;obtain⟨u,hu⟩:=hy;exact⟨_,_,sG Tryz.isAgg3 hv,sG Tryz.isAgg3 hu,PF (k:=.i64) Tryz.underlying3 v u⟩
theorem Nv{d:Nat}(e:xg i a)(f:xg j a):∃c b,Pt V 4 i a c/\Pt V 4 j a b/\qH V (d+1) 4 c b:=by
 let⟨v,g⟩:=e;let⟨u,h⟩:=f;exact⟨_,_,sG Tryz.isAgg4 g,sG Tryz.isAgg4 h,c2m Tryz.underlying4 v u⟩
theorem c2o{d:Nat}(c:∀a,a<5->W8 i a)(g:∀a,a<5->W8 j a):qH V (d+2) 87 (.agg i) (.agg j):=by
 refine Z7 Zd Zd ?_;have e:(V.fieldsOf 87).toList.map (λf=>(f.name != "_",f.type,f.offset))=[(true,3,0),(true,3,1),(true,3,2),(true,3,3),(true,3,4)]:=by kernel_rfl
 intro f h;have b:=dB (f:=λf:Field=>(f.name != "_",f.type,f.offset)) h;rw[e]at b;generalize k:(f.name != "_")=n at b;generalize f.type=l at *;generalize f.offset=m at *;simp at b;rcases b with⟨rfl,rfl,rfl⟩|⟨rfl,rfl,rfl⟩|⟨rfl,rfl,rfl⟩|⟨rfl,rfl,rfl⟩|⟨rfl,rfl,rfl⟩
 all_goals exact⟨by simpa using k,X4 (c _ Za) (g _ Za)⟩
theorem b8u{d:Nat}(b:∀a,a<4->W8 i a)(c:∀a,a<4->W8 j a):qH V (d+2) 69 (.agg i) (.agg j) :=
 Fy Tryz.underlying69 Tryz.sizeOf3 λe f=>X4 (b _ Za) (c _ Za)
theorem ZE{d:Nat}(c:∀a,a<6->W8 i a)(g:∀a,a<6->W8 j a):qH V (d+3) 71 (.agg i) (.agg j):=by
 refine Z7 Zd Zd ?_;have e:(V.fieldsOf 71).toList.map (λf=>(f.name != "_",f.type,f.offset))=[(true,3,0),(true,3,1),(true,69,2)]:=by kernel_rfl
 intro f k;have b:=dB (f:=λf:Field=>(f.name != "_",f.type,f.offset)) k;rw[e]at b;generalize h:(f.name != "_")=n at b;generalize f.type=m at *;generalize f.offset=o at *;simp at b;rcases b with⟨rfl,rfl,rfl⟩|⟨rfl,rfl,rfl⟩|⟨rfl,rfl,rfl⟩
 .exact⟨by simpa using h,X4 (c _ Za) (g _ Za)⟩
 .exact⟨by simpa using h,X4 (c _ Za) (g _ Za)⟩
 .exact⟨by simpa using h,_,_,te Tryz.isAgg69 Tryz.sizeOf69,te Tryz.isAgg69 Tryz.sizeOf69,b8u (λa l=>(c (2+a) Za).cut Za) λa l=>(g (2+a) Za).cut Za⟩
def qN(n:Nat)(a:Array Vu)(o:Nat):Prop:=∀i,i<n->W8 a (o+i*2)/\xg a (o+i*2+1)
theorem qN.cut(h:qN a i b)(g:b+a*2<=c):qN a (i.extract b c) 0:=λe f =>
 ⟨(show W8 i (b+(0+e*2)) by rw[aE];exact(h e f).1).cut Za,(show xg i (b+(0+e*2+1)) by rw[aE,←aP];exact(h e f).2).cut Za⟩
theorem qN.one(h:qN a i b)(e:c<a):qN 1 i (b+c*2):=λj f=>by
 obtain rfl:j=0:=by omega
 simpa using h c e
theorem b8q{d:Nat}(b:qN 1 i 0)(c:qN 1 j 0):qH V (d+2) 76 (.agg i) (.agg j):=by
 refine Z7 Zd Zd ?_;have e:(V.fieldsOf 76).toList.map (λf=>(f.name != "_",f.type,f.offset))=[(true,3,0),(true,4,1)]:=by kernel_rfl
 intro f h;have a:=dB (f:=λf:Field=>(f.name != "_",f.type,f.offset)) h;rw[e]at a;generalize g:(f.name != "_")=n at a;generalize f.type=k at *;generalize f.offset=l at *;simp at a;rcases a with⟨rfl,rfl,rfl⟩|⟨rfl,rfl,rfl⟩
 .exact⟨by simpa using g,X4 (b 0 Za).1 (c 0 Za).1⟩
 .exact⟨by simpa using g,Nv (b 0 Za).2 (c 0 Za).2⟩
theorem VF{d:Nat}(b:qN 1 i 0)(c:qN 1 j 0):qH V (d+2) 79 (.agg i) (.agg j):=by
 refine Z7 Zd Zd ?_;have e:(V.fieldsOf 79).toList.map (λf=>(f.name != "_",f.type,f.offset))=[(true,3,0),(true,4,1)]:=by kernel_rfl
 intro f h;have a:=dB (f:=λf:Field=>(f.name != "_",f.type,f.offset)) h;rw[e]at a;generalize g:(f.name != "_")=n at a;generalize f.type=k at *;generalize f.offset=l at *;simp at a;rcases a with⟨rfl,rfl,rfl⟩|⟨rfl,rfl,rfl⟩
 .exact⟨by simpa using g,X4 (b 0 Za).1 (c 0 Za).1⟩
 .exact⟨by simpa using g,Nv (b 0 Za).2 (c 0 Za).2⟩
theorem b8t{d:Nat}(c:qN 4 i 0)(e:qN 4 j 0):qH V (d+3) 77 (.agg i) (.agg j) :=
 Fy Tryz.underlying77 kv λa b=>⟨_,_,te Tryz.isAgg76 kv,te Tryz.isAgg76 kv,b8q ((show qN 1 i (a*2) by simpa using c.one b).cut Za) ((show qN 1 j (a*2) by simpa using e.one b).cut Za)⟩
theorem Rf{d:Nat}(c:qN 4 i 0)(e:qN 4 j 0):qH V (d+3) 80 (.agg i) (.agg j) :=
 Fy Tryz.underlying80 kt λa b=>⟨_,_,te Tryz.isAgg79 kt,te Tryz.isAgg79 kt,VF ((show qN 1 i (a*2) by simpa using c.one b).cut Za) ((show qN 1 j (a*2) by simpa using e.one b).cut Za)⟩
structure rZ (xs:Array Vu):Prop where
 kind:W8 xs 0
 parent:W8 xs 1
 table:W8 xs 2
 wx:qN 4 xs 3
 files:qN 4 xs 11
 code:W8 xs 19
theorem Rd{d:Nat}(a:rZ i)(b:rZ j):qH V (d+4) 82 (.agg i) (.agg j):=by
 refine Z7 Zd Zd ?_;have e:(V.fieldsOf 82).toList.map (λf=>(f.name != "_",f.type,f.offset))=[(true,3,0),(true,3,1),(true,3,2),(true,77,3),(true,80,11),(true,3,19)]:=by kernel_rfl
 intro f h;have g:=dB (f:=λf:Field=>(f.name != "_",f.type,f.offset)) h;rw[e]at g;generalize c:(f.name != "_")=n at g;generalize f.type=k at *;generalize f.offset=l at *;simp at g;rcases g with⟨rfl,rfl,rfl⟩|⟨rfl,rfl,rfl⟩|⟨rfl,rfl,rfl⟩|⟨rfl,rfl,rfl⟩|⟨rfl,rfl,rfl⟩|⟨rfl,rfl,rfl⟩
 .exact⟨by simpa using c,X4 a.kind b.kind⟩
 .exact⟨by simpa using c,X4 a.parent b.parent⟩
 .exact⟨by simpa using c,X4 a.table b.table⟩
 .exact⟨by simpa using c,_,_,te Tryz.isAgg77 Tryz.sizeOf77,te Tryz.isAgg77 Tryz.sizeOf77,b8t (a.wx.cut Za) (b.wx.cut Za)⟩
 .exact⟨by simpa using c,_,_,te Tryz.isAgg80 Tryz.sizeOf80,te Tryz.isAgg80 Tryz.sizeOf80,Rf (a.files.cut Za) (b.files.cut Za)⟩
 .exact⟨by simpa using c,X4 a.code b.code⟩
attribute [local go_sem ↓] Go.wp_at_zero Go.wp_at_succ
def cut(f:Nat->Vu)(o m:Nat):List dM:=(aO m).map λj=>f (o+j)
theorem wD(f:Nat->Vu)(o m j:Nat)(h:j<m):(cut f o m).toArray[j]?=J (f (o+j)):=by simp[cut,h]
theorem b7f(h:bE a f g):bE a f g.drew:=⟨h.os,h.tape,h.output,h.size,h.block⟩
theorem x7(f:Nat->Vu)(o m:Nat):(cut f o m).length=m:=by simp[cut]
theorem Ha(c:bE a f g)(k:bE b g h)(e:a<=b):bE a f h :=
 c.trans ⟨k.os,k.tape,k.output,k.size,λi j=>k.block i (Zg j e)⟩
theorem b7e(a:bE b f g)(i:c<b)(h:f.cell? (O c e Q)=J k):g.cell? (O c e Q)=J k :=
 (Zf (w:=f) (a:=(O c e Q)) (a.block c i)).trans h
theorem PB{P:Pg}{e:Array aL}{g:List aL}{Q:Exit->cZ->Wd->Prop}(j:r.guard=G')(c:Ti)(x y:aS)(l:r.op=.store c x y)(b o:Nat)(a:Array Vu)(m:R.eval x=Po (J (O b o G')))(n:R.eval y=.agg a)(i:f.there b o a.size)(p:(P.info? c).map (·.size)=J a.size)(q:a.all (·.oneCell')=true)(h:∀W,W.rangeAt b o a.toList->(∀k,k≠b->W.heap[k]?=f.heap[k]?)->W.heap.size=f.heap.size->(∀B R,bE B R f->B<=b->bE B R W)->iR P e Q g (R.put r.dst Ud) W):iR P e Q (r::g) R f :=
 dV j c x y l b o a m n i p q (h _ (fy f b o _ (by rw[Array.length_toList];exact i)) (λk s=>I3 s _ _ _) (l8 _ _ _) λB R u v=>p9 v _ _ u)
theorem K8(K:aa)(p j:Nat)(a:j<20)(h:¬(4<=j/\j<=18/\j%2=0)):A7 K (p*20+j)=Y U (K.S p j):=by
 unfold A7;rw[mY Za,show(p*20+j) / 20=p by omega,show(p*20+j)%20=j by omega]
theorem Fq{w:Wd}{b:Nat}{f:Nat->Vu}{o m:Nat}(h:w.rangeAt b 0 (cut f o m)){j:Nat}(a:j<m):w.cell? (O b j Q)=J (f (o+j)):=by
 have e:=h j (f (o+j)) (by simp[cut,a]);rw[aE]at e;exact e
theorem d0x(w:Wd)(A B:Obj)(c:Array Vu)(t:Ti)(m:Nat)(h:c.size=m):(((w.alloc A).alloc B).alloc (.cells c t)).there (w.heap.size+2) 0 m:=by
 have:=D5 (K7 ((w.alloc A).alloc B) c t) (o:=0) (m:=m) Za;simpa using this
theorem PQ{t:Ti}(h:i.size=a):(f.alloc (.cells i t)).there f.heap.size 0 a :=
 D5 (K7 f i t) (o:=0) (m:=a) Za
end
section
open Go.RowKit
variable{a b c d e:Nat}{f g h:Wd}{i j:Array Vu}{k l:Vu}{m n o p q:Int}{r s:aL}{t u v w:Bool}{x y:Ti}{z A:aS}{B C:List Nat}{D:Gr->Wd->Prop}{E:List Fm'}{F:Func}{H:List Vu}{I:List ng}{K:Obj}{L N:Type}{P:Array aL}{R:cZ}{S:Fm'}{T:Nat->Nat}{W:List fj}
def Bu:jj :=
 match Tryz.f117.body with
 | some (.seq _ (.seq _ c))=>c
 | _=>.skip
def wC(d e:Nat)(f a b c:Int)(g h i:Vu):Array Vu :=
 #[Po (J (O d 0 Q)),Y U f,.agg #[Y U a,Y U b,Y U c],Ud,Ud,Po (J (O e 0 Q)),Y U 0,Y U 0,Ud,Ud,Po (J (O d 0 Q)),Po (J (O d 0 Q)),Po (J (O d 12 Q)),Bo false,Bo false,Po (J (O d 0 Q)),g,h,i,
  Ud,Ud,Ud,Ud,Ud,Ud,Ud,Ud,Ud,Ud,Ud,Ud,Ud,Ud,Ud,Ud,Ud,Ud,Ud,Ud,Ud,Ud,Ud,Ud,Ud,Ud,Ud]
theorem XE{bo bx:Nat}{K:aa}(R:js f a b c d K)(T:qn f)(E:Good K)(n o i l m:Int){x11 x12:Vu}(r:f.cell? (O bo 3 Q)=J (Po (J (O a 0 Q))))(F:f.cell? (O bo 4 Q)=J (Y U n))(b':f.cell? (O bo 11 Q)=J x11)(H:f.cell? (O bo 12 Q)=J x12)(c':f.frozen? (O bo 11 Q)=false)(I:f.frozen? (O bo 12 Q)=false)(b0:f.cell? (O bx 0 Q)=J (Y U i))(L:f.cell? (O bx 1 Q)=J (Y U l))(N:f.cell? (O bx 2 Q)=J (Y U m))(y:bx≠bo)(h:bo≠a/\bo≠b/\bo≠c/\bo≠d/\bo≠0)(z:bx≠b/\bx≠c/\bx≠d) :
  Bu.wp V (λe A B=>e=.ret/\A.defers=[]/\A.tmps.getD 6 Ud=Y U (i5 K n o i l m).n/\A.tmps.getD 7 Ud=Y U (i5 K n o i l m).e/\js B a b c d (i5 K n o i l m).K/\f.heap.size<=B.heap.size /\
   (∀k,k<f.heap.size->k≠b->k≠c->k≠d->B.heap[k]?=((f.setCell (O bo 11 Q) (Bo false)).setCell (O bo 12 Q) (Bo ((i5 K n o i l m).e==3))).heap[k]?)) ⟨wC bo bx o i l m (Bo true) (Bo false) (Bo false),[]⟩ f:=by
 have C:∀x:Vu,(f.setCell (O bo 11 Q) x).heap.size=f.heap.size:=λx=>by simp[cO]
 have v:∀(u:Wd) (j:Nat) (x:Vu) (k:Nat),k≠bo->(u.setCell (O bo j Q) x).heap[k]?=u.heap[k]?:=λu j x k q=>by rw[heap_setCell,mY λe=>q e.symm]
 generalize P:i5 K n o i l m=g;have HO:ar (i5 K n o i l m=g):=P;have D:ar (js (f.setCell (O bo 11 Q) (Bo false)) a b c d K/\qn (f.setCell (O bo 11 Q) (Bo false))/\Good K):=⟨R.same (fF (C _).symm) λk _ q=>v _ _ _ _ (by rcases q with rfl|rfl|rfl|rfl<;>first|exact aA h.1|exact aA h.2.1|exact aA h.2.2.1|exact aA h.2.2.2.1),T.same (v _ _ _ _ (aA h.2.2.2.2)),E⟩;have S:(f.setCell (O bo 11 Q) (Bo false)).cell? (O bo 3 Q)=J (Po (J (O a 0 Q))):=(cD f (O bo 11 Q) (O bo 3 Q) (Bo false) Zc).trans r;have c4:(f.setCell (O bo 11 Q) (Bo false)).cell? (O bo 4 Q)=J (Y U n):=(cD f (O bo 11 Q) (O bo 4 Q) (Bo false) Zc).trans F;have d':(f.setCell (O bo 11 Q) (Bo false)).cell? (O bo 12 Q)=J x12:=(cD f (O bo 11 Q) (O bo 12 Q) (Bo false) Zc).trans H;have G:(f.setCell (O bo 11 Q) (Bo false)).cell? (O bx 0 Q)=J (Y U i):=(cD f (O bo 11 Q) (O bx 0 Q) (Bo false) (by simp[aA y])).trans b0;have d1:(f.setCell (O bo 11 Q) (Bo false)).cell? (O bx 1 Q)=J (Y U l):=(cD f (O bo 11 Q) (O bx 1 Q) (Bo false) (by simp[aA y])).trans L;have d2:(f.setCell (O bo 11 Q) (Bo false)).cell? (O bx 2 Q)=J (Y U m):=(cD f (O bo 11 Q) (O bx 2 Q) (Bo false) (by simp[aA y])).trans N;have e':(f.setCell (O bo 11 Q) (Bo false)).frozen? (O bo 12 Q)=false:=by rw[j7];exact I
 have M:ar (bo<f.heap.size/\(∀(u:Wd) (j:Nat) (x:Vu) (k:Nat),k≠bo->(u.setCell (O bo j Q) x).heap[k]?=u.heap[k]?)/\(∀x:Vu,(f.setCell (O bo 11 Q) x).heap.size=f.heap.size)):=⟨aK _ _ r,v,C⟩;clear P R T E v C;unfold Bu wC;simp only[gy]
 go_wp2_with fail
 generalize hW:f.setCell (O bo 11 Q) (Bo false)=W at *;clear r F b' H c' I b0 L N
 go_region_held3 (λs=>s.cell? (O bo 3 Q)=J (Po (J (O a 0 Q)))/\s.cell? (O bo 4 Q)=J (Y U n)/\s.cell? (O bx 0 Q)=J (Y U i)/\s.cell? (O bx 1 Q)=J (Y U l)/\s.cell? (O bx 2 Q)=J (Y U m)) ((repeat' apply db)<;>(first|assumption|(go_keep;done)))
  (first|(go_at_call 16;refine(Ol D.out.1.drew (D.out.2.1.same (w':=W.drew) Z) D.out.2.2 n o i l m).mono ?_;rintro e p ⟨rfl,R4,q4⟩;rw[HO.out]at R4 ⊢;have t:p.heap[bo]?=W.heap[bo]?:=q4.block bo (aK W _ S) h.2.1 h.2.2.1 h.2.2.2.1;have w:p.heap[bx]?=W.heap[bx]?:=q4.block bx (aK W _ G) z.1 z.2.1 z.2.2;have f3:=(Zf (w:=W) (a:=(O bo 3 Q)) t).trans S;have f4:=(Zf (w:=W) (a:=(O bo 4 Q)) t).trans c4;have g':=(Zf (w:=W) (a:=(O bo 12 Q)) t).trans d';have g0:=(Zf (w:=W) (a:=(O bx 0 Q)) w).trans G;have g1:=(Zf (w:=W) (a:=(O bx 1 Q)) w).trans d1;have g2:=(Zf (w:=W) (a:=(O bx 2 Q)) w).trans d2;have h':p.frozen? (O bo 12 Q)=false:=(by simp only[bR,t];exact e');have X:ar (js p a b c d g.K/\dT b c d W.drew p):=⟨R4,q4⟩;clear t w R4 q4))
 go_wp2
 have f':W.heap.size=f.heap.size:=by rw[←hW];exact M.out.2.2 _
 have hq:=X.out.2;refine⟨X.out.1.same (by simp[cO]) λk _ q=>M.out.2.1 p 12 _ k (by rcases q with rfl|rfl|rfl|rfl<;>first|exact aA h.1|exact aA h.2.1|exact aA h.2.2.1|exact aA h.2.2.2.1),Zh (fF f'.symm) hq.size,λk q h1 h2 r=>?_⟩;have e:p.heap[k]?=W.heap[k]?:=hq.block k (by show k<W.heap.size;omega) h1 h2 r;rw[heap_setCell,heap_setCell,e]
end
section
open Go.Conc
variable{a b c d e:Nat}{f g h:Wd}{i j:Array Vu}{k l:Vu}{m n o p q:Int}{r s:aL}{t u v w:Bool}{x y:Ti}{z A:aS}{B C:List Nat}{D:Gr->Wd->Prop}{E:List Fm'}{F:Func}{H:List Vu}{I:List ng}{K:Obj}{L N:Type}{P:Array aL}{R:cZ}{S:Fm'}{T:Nat->Nat}{W:List fj}
def R0(C:Ctx)(a b:Int)(c:Vu)(d e:Bool):Array Vu :=
 #[.chan (J C.o.tu),.chan (J C.o.to),.chan (J C.o.en),Po (J (O C.bk 0 Q)),Y U C.slot,Y U C.kd,Y U C.A,Y U C.B,Y U a,Y U b,c,Bo d,Bo e]
abbrev y6:=Nat->Obj
def y6.set(H:y6)(b:Nat)(x:Obj):y6:=λi=>if i=b then x else H i
theorem y6.na{H:y6}:H.set a K a=K:=by simp[y6.set]
theorem y6.lj{H:y6}(h:b≠a):H.set a K b=H b:=by simp[y6.set,h]
def Has(a:List Nat)(H:y6)(w:Wd):Prop:=∀i∈a,w.heap[i]?=J (H i)
structure Pv (C:Ctx) (pv:List Nat):Prop where
 rc:C.o.bo∈pv
 ap:∀i∈pv,i≠C.bk/\i≠C.bf/\i≠C.bs/\i≠C.bd/\i≠0
structure oz (C:Ctx) (pv:List Nat) (w w':Wd):Prop where
 size:w.heap.size<=w'.heap.size
 block:∀k,k<w.heap.size->k∉pv->k≠C.bf->k≠C.bs->k≠C.bd->w'.heap[k]?=w.heap[k]?
theorem oz.refl(C:Ctx)(a:List Nat)(w:Wd):oz C a w w:=⟨af _,λ_ _ _ _ _ _=>rfl⟩
theorem oz.trans{a:Ctx}(b:oz a B f g)(k:oz a C g h)(m:∀i∈C,i∈B\/f.heap.size<=i):oz a B f h :=
 ⟨Zh b.size k.size,λi c d e j l=>(k.block i (Zg c b.size) (λn=>(m i n).elim d λz=>by omega) e j l).trans (b.block i c d e j l)⟩
structure At (C:Ctx) (l:List ng) (K:aa) (pv:List Nat) (H:y6) (free:Vu) (un go:Bool) (w:Wd):Prop where
 env:Env C l K w
 mem:C.o∈l
 own:Pv C pv
 has:Has pv H w
 row:∃t,H C.o.bo=.cells (R0 C 0 0 free un go) t (0,0)
 top:0≠C.bf/\0≠C.bs/\0≠C.bd
 pC:∀i∈pv,i≠C.o.bo->∀o∈l,o.bo≠i
variable{C:Ctx}{l:List ng}{K:aa}{n:List Nat}{H:y6}{f:Vu}{m p:Bool}{w:Wd}
theorem At.blk(A:At C l K n H f m p w):∃t,w.heap[C.o.bo]?=J (.cells (R0 C 0 0 f m p) t (0,0)):=by
 let⟨t,h⟩:=A.row;exact⟨t,by rw[A.has _ A.own.rc,h]⟩
theorem At.cell(A:At C l K n H f m p w){j:Nat}(h:(R0 C 0 0 f m p)[j]?=J k):w.cell? (O C.o.bo j Q)=J k:=by
 let⟨t,a⟩:=A.blk;simp only[aC,a];simpa using h
theorem At.clear(A:At C l K n H f m p w):Clear w:=A.env.fit.clear
theorem CN(r:Array Vu)(t:Ti)(j:Nat)(x:Vu)(w:Wd)(a:Nat)(h:w.heap[a]?=J (.cells r t (0,0))):(w.setCell (O a j Q) x).heap[a]?=J (.cells (r.setIfInBounds j x) t (0,0)):=by
 rw[heap_setCell,mZ Z,h];rfl
theorem At.turn(A:At C l K n H f m p w){j:aa}(B:js g C.bk C.bf C.bs C.bd j)(D:rC j)(hF:Fit (ep l) g)(M:oz C [C.o.bo] w g)(r:g.heap[C.o.bo]?=J (.cells (R0 C 0 0 k t u) x (0,0))) :
  At C l j n (H.set C.o.bo (.cells (R0 C 0 0 k t u) x (0,0))) k t u g:=by
 have h:∀a,a<w.heap.size->a≠C.o.bo->a≠C.bf->a≠C.bs->a≠C.bd->g.heap[a]?=w.heap[a]?:=λa h b=>M.block a h (by simpa using b);have E:∀i∈n,i<w.heap.size:=λi d=>(Zj (A.has i d)).1;refine⟨⟨B,A.env.oq.same (h 0 A.env.oq.lt (aA (A.env.ap _ A.mem).2.2.2.2) A.top.1 A.top.2.1 A.top.2.2),D,hF,λo q=>?_,A.env.ap⟩,A.mem,A.own,λi d=>?_,⟨x,y6.na⟩,A.top,A.pC⟩
 .by_cases e:o.bo=C.o.bo
  .let⟨c,F,b,s,I,L⟩:=A.env.ko o q;let⟨t2,N⟩:=A.blk;rw[e,N]at b;obtain⟨rfl,rfl,_⟩:=Obj.cells.inj (Ze b);exact⟨R0 C 0 0 k t u,x,by rw[e];exact r,s,I,L⟩
  .let⟨c,F,b,s⟩:=A.env.ko o q;let⟨_,v,y,z,_⟩:=A.env.ap o q
   grind
 .by_cases e:i=C.o.bo
  .subst e;rw[y6.na];exact r
  .rw[y6.lj e];let⟨_,v,y,z,_⟩:=A.own.ap i d;rw[h i (E i d) e v y z];exact A.has i d
theorem a8H(A:At C l K n H f m false w)(q o b c:Int)(z:a∈n)(X:a≠C.o.bo){L:Nat×Nat}(hH:H a=.cells #[Y U o,Y U b,Y U c] x L)(D:Fm')(E:List Fm'){Stop:Gr->Wd->Prop}(hn:∀(t:Ti) (s:Wd),At C l (i5 K C.slot q o b c).K n (H.set C.o.bo (.cells (R0 C 0 0 f false ((i5 K C.slot q o b c).e==3)) t (0,0))) f false ((i5 K C.slot q o b c).e==3) s->oz C [C.o.bo] w s ->
   ∀d,l6 V false (DL true (ep l)) Stop (G (D.finish (.tuple #[Y U (i5 K C.slot q o b c).n,Y U (i5 K C.slot q o b c).e])) E) (s.at d))(r:Nat) :
  l6 V false (DL true (ep l)) Stop (G ((aQ 117).at ⟨wC C.o.bo a q o b c (Bo true) (Bo false) (Bo false),[]⟩ [.code Bu]) (D::E)) (w.at r):=by
 let⟨N,P,R⟩:=A.env.zero;let⟨t,F⟩:=A.blk;have I:w.heap[a]?=J (.cells #[Y U o,Y U b,Y U c] x L):=by rw[A.has a z,hH]
 have S:∀v,Lk (ep l) v (w.at r)->∀j,3<=j->v.frozen? (O C.o.bo j Q)=false:=λv i j hj=>by
  have:=i.heap C.o.bo;rw[show(w.at r).heap=w.heap from Z,F,Q2 A.mem]at this;simp only[bR,this,aD,fz];simp;omega
 have e':=λv (i:Lk (ep l) v (w.at r))=>XE (bo:=C.o.bo) (bx:=a) (x11:=Bo m) (x12:=Bo false) (Ca i N P R (A.env.rep.same (w':=w.at r) (af _) λ_ _ _=>rfl)) (PI i (A.env.oq.same (w':=w.at r) Z)) A.env.inv.mL C.slot q o b c
  (by rw[i.cell];exact A.cell Z) (by rw[i.cell];exact A.cell Z) (by rw[i.cell];exact A.cell Z) (by rw[i.cell];exact A.cell Z) (S v i 11 Za) (S v i 12 Za)
  (by rw[i.cell];show(w.at r).cell? _=_;simp[aC,World.at,I]) (by rw[i.cell];show(w.at r).cell? _=_;simp[aC,World.at,I]) (by rw[i.cell];show(w.at r).cell? _=_;simp[aC,World.at,I])
  X (A.env.ap _ A.mem) ⟨(A.own.ap a z).2.1,(A.own.ap a z).2.2.1,(A.own.ap a z).2.2.2.1⟩
 refine(QU xn (sft:=ep l) (b:=aQ 117) (w0:=w.at r) Zd Z Z ⟨_,cQ⟩ ⟨A.env.fit.soft,A.env.fit.clear⟩ false (Q:=λe u y=>(e=.ret/\u.defers=[]/\u.tmps.getD 6 Ud=Y U (i5 K C.slot q o b c).n/\u.tmps.getD 7 Ud=Y U (i5 K C.slot q o b c).e/\js y C.bk C.bf C.bs C.bd (i5 K C.slot q o b c).K)/\∃v,Lk (ep l) v (w.at r)/\v.heap.size<=y.heap.size /\
   (∀k,k<v.heap.size->k≠C.bf->k≠C.bs->k≠C.bd->y.heap[k]?=((v.setCell (O C.o.bo 11 Q) (Bo false)).setCell (O C.o.bo 12 Q) (Bo ((i5 K C.slot q o b c).e==3))).heap[k]?)) (λe o w h=>.inr h.1.1)
  (λv i=>Code.wp_mono (λe u y h=>⟨⟨h.1,h.2.1,h.2.2.1,h.2.2.2.1,h.2.2.2.2.1⟩,v,i,h.2.2.2.2.2.1,h.2.2.2.2.2.2⟩) (e' v i)) [] (D::E)).keep.then ?_
 rintro g s ⟨⟨e,u,y,⟨⟨rfl,hd,h6,h7,hR⟩,v,i,hsz,hblk⟩,hl',hg⟩,hkp⟩;have f':w.heap.size<=s.heap.size:=by rw[←hl'.size];exact Zh (fF i.size.symm) hsz
 have k':v.heap.size=w.heap.size:=i.size;have M:oz C [C.o.bo] w s:=by
  refine⟨f',λk hk h0 h1 h2 h3=>?_⟩;have T:C.o.bo≠k:=λe=>h0 (by simp[e]);refine C5 (w:=w.at r) hkp i hl' ?_;rw[hblk k Za h1 h2 h3,heap_setCell,mY T,heap_setCell,mY T]
 have l':C.o.bo<w.heap.size:=(Zj F).1;let⟨_,a1,a2,a3,_⟩:=A.env.ap _ A.mem;have g':s.heap[C.o.bo]?=J (.cells (R0 C 0 0 f false ((i5 K C.slot q o b c).e==3)) t (0,0)):=by
  have W:=hblk C.o.bo Za a1 a2 a3;have e2:v.heap[C.o.bo]?=J (.cells (R0 C 0 0 f m false) t (0,3)):=by
   rw[i.heap,show(w.at r).heap=w.heap from Z,F,Q2 A.mem];rfl
  rw[heap_setCell,mZ Z,heap_setCell,mZ Z,e2]at W;have B:=hl'.heap C.o.bo;rw[W,Q2 A.mem]at B;let⟨c',t',h'⟩:=hl'.soft C.o.bo (by rw[Q2 A.mem];omega);rw[h']at B ⊢;simp only[aD,fz,bm,Obj.cells.injEq]at B;let⟨e4,e5,_⟩:=B;rw[←e4,←e5];rfl
 have A':=A.turn (HK hl' N P R hR) (yQ A.env.inv C.slot q o b c) hl'.fit M g';rcases hg with⟨h,_⟩|⟨_,i',rfl⟩
 .cases h
 .have j':Go.Conc.ResultsC V gy u.tmps (.tuple #[Y U (i5 K C.slot q o b c).n,Y U (i5 K C.slot q o b c).e]):=by
   have:=mb (P:=V) (fn:=gy) (t:=6) (u:=7) Z u.tmps
   grind
  exact Pf (Y4 (b:=aQ 117) (todo:=i') Z hd cQ j' (hn t s A' M))
end
section
open Go.Conc Go.RowKit
variable{a b c d e:Nat}{f g h:Wd}{i j:Array Vu}{k l:Vu}{m n o p q:Int}{r s:aL}{t u v w:Bool}{x y:Ti}{z A:aS}{B C:List Nat}{D:Gr->Wd->Prop}{E:List Fm'}{F:Func}{H:List Vu}{I:List ng}{K:Obj}{L N:Type}{P:Array aL}{R:cZ}{S:Fm'}{T:Nat->Nat}{W:List fj}
variable{C:Ctx}{l:List ng}{K:aa}{B:List Nat}{H:y6}{F:Vu}{un I:Bool}{w:Wd}
theorem At.alloc(A:At C l K B H F un I w){x:Obj}(j:Obj.nz x):At C l K (w.heap.size::B) (H.set w.heap.size x) F un I (w.alloc x):=by
 have g:∀i∈B,i<w.heap.size:=λi a=>(Zj (A.has i a)).1;have e:∀k,k<w.heap.size->(w.alloc x).heap[k]?=w.heap[k]?:=λk m=>aJ w x k m;have b:=A.env.rep;have n:=qp A.env.fit.clear.lk j;refine⟨⟨b.alloc x,A.env.oq.alloc x,A.env.inv,⟨λi a=>?_,n.1.nz⟩,λo d=>?_,A.env.ap⟩,A.mem,⟨ah _ A.own.rc,λi a=>?_⟩,λi a=>?_,?_,A.top,λi a f o d=>?_⟩
 .let⟨c,t,h⟩:=A.env.fit.soft i a;exact⟨c,t,by rw[e i (Zj h).1];exact h⟩
 .let⟨c,t,f,p⟩:=A.env.ko o d;exact⟨c,t,by rw[e _ (KO.lt A.env.ko d)];exact f,p⟩
 .rcases ae.1 a with rfl|a
  .have:=b.lk;have:=b.lf;have:=b.ls;have:=b.ld;have:=A.env.oq.lt;refine⟨?_,?_,?_,?_,?_⟩<;>omega
  .exact A.own.ap i a
 .rcases ae.1 a with rfl|a
  .rw[y6.na];show(w.heap.push x)[w.heap.size]?=_;simp
  .have:=g i a;rw[y6.lj Za,e i this];exact A.has i a
 .let⟨t,h⟩:=A.row;have:=g _ A.own.rc;exact⟨t,by rw[y6.lj Za];exact h⟩
 .rcases ae.1 a with rfl|a
  .exact dt (KO.lt A.env.ko d)
  .exact A.pC i a f o d
theorem GS(B:List Nat){x:Obj}:oz C B w (w.alloc x):=⟨by simp,λk a _ _ _ _=>aJ w x k a⟩
def wI(d e:Nat)(f a b c:Int):Fm' :=
 match Tryz.f117.body with
 | some (.seq _ (.seq (.seq (.region _ ops _) k) t))=>(aQ 117).at ⟨wC d e f a b c Ud Ud Ud,[]⟩ [.inRegion ops [6,7,8],.code k,.code t]
 | _=>dR
def Bm:jj:=(Tryz.f117.body).getD .skip
abbrev wZ(o:ng)(d a b c:Int):Array dM:=#[pO o,Y U d,.agg #[Y U a,Y U b,Y U c]]
abbrev qV(a b c:Int):Obj:=.cells #[Y U a,Y U b,Y U c] 25 (0,0)
theorem LD(o:ng)(d a b c:Int):ay V 117 (wZ o d a b c) .normal=(aQ 117).at ⟨#[pO o,Y U d,.agg #[Y U a,Y U b,Y U c],Ud,Ud,Ud,Ud,Ud,Ud,Ud,Ud,Ud,Ud,Ud,Ud,Ud,Ud,Ud,Ud,
  Ud,Ud,Ud,Ud,Ud,Ud,Ud,Ud,Ud,Ud,Ud,Ud,Ud,Ud,Ud,Ud,Ud,Ud,Ud,Ud,Ud,Ud,Ud,Ud,Ud,Ud,Ud],[]⟩ [.code Bm]:=by
 rw[enter_at (c:=Bm) _ cQ Z];refine congrArg (λt=>(aQ 117).at ⟨t,[]⟩ [.code Bm]) ?_
 kernel_rfl
theorem c0j(A:At C l K B H F un false w)(g a b c:Int)(h:Fm')(i:List Fm'){Stop:Gr->Wd->Prop}(j:∀d,l6 V false (DL true (ep l)) Stop (G (ay V 128 #[pO C.o] .normal) (wI C.o.bo w.heap.size g a b c::h::i)) ((w.alloc (qV a b c)).at d))(k:Nat) :
  l6 V false (DL true (ep l)) Stop (G (ay V 117 (wZ C.o g a b c) .normal) (h::i)) (w.at k):=by
 have o:=A.clear;rw[LD];unfold wI wC at j;simp only[Bm,gy,cU,pO]at *;refine B5 (λd=>?_) _;refine m8 (λd=>?_) _;simp only[rz,ix,Nat.reduceAdd];refine B9 Z Z Zb (λd K f=>?_) _;go_simp;refine f _ _ ⟨zh λe m=>?_,?_⟩
 .have n:=cA m;simp[go_sem]at n
 clear f K;rw[show(w.at d).alloc (qV a b c)=(w.alloc (qV a b c)).at d from Z];have A:At C l _ _ _ F un false (w.alloc (qV a b c)):=A.alloc mX;generalize w.alloc (qV a b c)=W at *;have p:=A.clear;(iterate 2(refine mo Z Z λd K f=>?_;go_simp;refine f _ _ ⟨Z,?_⟩;clear f K));refine i8 (λd=>?_) _;refine B5 (λd=>?_) _;refine B5 (λd=>?_) _;refine m8 (λd=>?_) _;simp only[rz,ix,Nat.reduceAdd];(iterate 3(refine mo Z Z λd K f=>?_;go_simp;refine f _ _ ⟨Z,?_⟩;clear f K));refine mo Z Z λd K f=>?_;have q:(W.at d).cell? (O C.o.bo 12 Q)=J (Bo false):=A.cell Z;go_simp;refine f _ _ ⟨Z,?_⟩;clear f K;(iterate 2(refine mo Z Z λd K f=>?_;go_simp;refine f _ _ ⟨Z,?_⟩;clear f K));refine mc Z (λu=>Z9 Z Z Zb Z iV Z Z (vs:=#[pO C.o]) (by simp[dj]) u) λd=>j d
theorem Rg(e f b c:Int)(m:Clear w)(g:Fm')(h:List Fm'){Stop:Gr->Wd->Prop}(j:∀d,l6 V false (DL true (ep l)) Stop (G ((aQ 117).at ⟨wC C.o.bo a e f b c (Bo true) (Bo false) (Bo false),[]⟩ [.code Bu]) (g::h)) (w.at d))(k:Nat) :
  l6 V false (DL true (ep l)) Stop (G ((wI C.o.bo a e f b c).finish (Bo true)) (g::h)) (w.at k):=by
 unfold wI wC Bu at *;simp only[gy]at *;rw[bI];go_simp;(iterate 2(refine mo Z Z λd K i=>?_;go_simp;refine i _ _ ⟨Z,?_⟩;clear i K));refine i8 (λd=>?_) _;refine mc Z (λu=>fN (t:=false) Z) λd=>?_;simp only[if_true,if_false,aI,↓reduceIte];refine Cz (λd=>?_) _;exact j _
theorem Y3(A:At C l K B H F un I f)(o p b c:Int)(j:Fm')(k:List Fm'){Stop:Gr->Wd->Prop}(q:∀d,l6 V false (DL true (ep l)) Stop (G (j.finish (.tuple #[Y U 0,Y U 3])) k) ((f.setCell (O C.o.bo 12 Q) (Bo true)).at d))(r:Nat) :
  l6 V false (DL true (ep l)) Stop (G ((wI C.o.bo a o p b c).finish (Bo false)) (j::k)) (f.at r):=by
 have m:=A.clear;unfold wI wC;simp only[gy];rw[bI];go_simp;(iterate 2(refine mo Z Z λd K g=>?_;go_simp;refine g _ _ ⟨Z,?_⟩;clear g K));refine i8 (λd=>?_) _;refine mc Z (λu=>fN (t:=true) Z) λd=>?_;simp only[if_true,if_false,aI,↓reduceIte];refine B5 (λd=>?_) _;refine m8 (λd=>?_) _;simp only[rz,ix,Nat.reduceAdd];(iterate 3(refine mo Z Z λd K g=>?_;go_simp;refine g _ _ ⟨Z,?_⟩;clear g K));refine B9 Z Z Zb (λd K g=>?_) _;have i:(f.at d).cell? (O C.o.bo 12 Q)=J (Bo I):=A.cell Z;have n:(f.at d).frozen? (O C.o.bo 12 Q)=false:=(uv A.env.ko A.mem).2.2.2 12;go_simp;refine g _ _ ⟨xx (by rw[Q2 A.mem];show 3<=12;omega) (aK _ _ i) λe s=>?_,?_⟩
 .have h:=cA s;simp only[go_sem]at h;simp[go_sem]at h;rw[jl _ _ _ _ _ _ Z,i]at h;rw[n]at h;simp only[aI,if_false,gp,eP,dU,ae,aj,or_false]at h;exact h
 clear g K i n;rw[show(f.at d).setCell (O C.o.bo 12 Q) (Bo true)=(f.setCell (O C.o.bo 12 Q) (Bo true)).at d from Z];have m:Clear (f.setCell (O C.o.bo 12 Q) (Bo true)):=(V7 m.lk (aW _)).1.nz;refine i8 (λd=>?_) _;refine B5 (λd=>?_) _;refine m8 (λd=>?_) _;simp only[rz,ix,Nat.reduceAdd];(iterate 2(refine mo Z Z λd K g=>?_;go_simp;refine g _ _ ⟨Z,?_⟩;clear g K));refine i8 (λd=>?_) _;refine ux (λd=>?_) _;exact Y4 (v:=.tuple #[Y U 0,Y U 3]) Z Z cQ (mb (t:=6) (u:=7) Z _) (w:=f.setCell (O C.o.bo 12 Q) (Bo true)) q _
theorem XT(A:At C l K B H F un true w)(o a b c:Int)(j:Fm')(k:List Fm'){Stop:Gr->Wd->Prop}(p:∀d,l6 V false (DL true (ep l)) Stop (G (j.finish (.tuple #[Y U 0,Y U 3])) k) (((w.alloc (qV a b c)).setCell (O C.o.bo 12 Q) (Bo true)).at d))(q:Nat) :
  l6 V false (DL true (ep l)) Stop (G (ay V 117 (wZ C.o o a b c) .normal) (j::k)) (w.at q):=by
 have r:=A.clear;rw[LD];simp only[Bm,gy,cU,pO]at *;refine B5 (λd=>?_) _;refine m8 (λd=>?_) _;simp only[rz,ix,Nat.reduceAdd];refine B9 Z Z Zb (λd K f=>?_) _;go_simp;refine f _ _ ⟨zh λe i=>?_,?_⟩
 .have g:=cA i;simp[go_sem]at g
 clear f K;rw[show(w.at d).alloc (qV a b c)=(w.alloc (qV a b c)).at d from Z];have A:At C l _ _ _ F un true (w.alloc (qV a b c)):=A.alloc mX;generalize w.alloc (qV a b c)=W at *;have m:=A.clear;(iterate 2(refine mo Z Z λd K f=>?_;go_simp;refine f _ _ ⟨Z,?_⟩;clear f K));refine i8 (λd=>?_) _;refine B5 (λd=>?_) _;refine B5 (λd=>?_) _;refine m8 (λd=>?_) _;simp only[rz,ix,Nat.reduceAdd];(iterate 3(refine mo Z Z λd K f=>?_;go_simp;refine f _ _ ⟨Z,?_⟩;clear f K));refine mo Z Z λd K f=>?_;have h:(W.at d).cell? (O C.o.bo 12 Q)=J (Bo true):=A.cell Z;go_simp;refine f _ _ ⟨Z,?_⟩;clear f K;refine mo Z Z λd K f=>?_;go_simp;refine f _ _ ⟨Z,?_⟩;clear f K;refine mc Z (λu=>stepG_unwanted Z Z) λd=>?_;go_simp;refine mc Z (λu=>stepG_unwanted Z Z) λd=>?_;go_simp;refine mc Z (λu=>stepG_unwanted Z Z) λd=>?_;go_simp;refine mo Z Z λd K f=>?_;go_simp;refine f _ _ ⟨Z,?_⟩;clear f K;refine i8 (λd=>?_) _;refine mc Z (λu=>fN (t:=true) Z) λd=>?_;simp only[if_true,if_false,aI,↓reduceIte];refine B5 (λd=>?_) _;refine m8 (λd=>?_) _;simp only[rz,ix,Nat.reduceAdd];(iterate 3(refine mo Z Z λd K f=>?_;go_simp;refine f _ _ ⟨Z,?_⟩;clear f K));refine B9 Z Z Zb (λd K f=>?_) _;have h:(W.at d).cell? (O C.o.bo 12 Q)=J (Bo true):=A.cell Z;have n:(W.at d).frozen? (O C.o.bo 12 Q)=false:=(uv A.env.ko A.mem).2.2.2 12;go_simp;refine f _ _ ⟨xx (by rw[Q2 A.mem];show 3<=12;omega) (aK _ _ h) λe i=>?_,?_⟩
 .have g:=cA i;simp only[go_sem]at g;simp[go_sem]at g;rw[jl _ _ _ _ _ _ Z,h]at g;rw[n]at g;simp only[aI,if_false,gp,eP,dU,ae,aj,or_false]at g;exact g
 clear f K h n;rw[show(W.at d).setCell (O C.o.bo 12 Q) (Bo true)=(W.setCell (O C.o.bo 12 Q) (Bo true)).at d from Z];have m:Clear (W.setCell (O C.o.bo 12 Q) (Bo true)):=(V7 m.lk (aW _)).1.nz;refine i8 (λd=>?_) _;refine B5 (λd=>?_) _;refine m8 (λd=>?_) _;simp only[rz,ix,Nat.reduceAdd];(iterate 2(refine mo Z Z λd K f=>?_;go_simp;refine f _ _ ⟨Z,?_⟩;clear f K));refine i8 (λd=>?_) _;refine ux (λd=>?_) _;exact Y4 (v:=.tuple #[Y U 0,Y U 3]) Z Z cQ (mb (t:=6) (u:=7) Z _) (w:=W.setCell (O C.o.bo 12 Q) (Bo true)) p _
inductive Node where
 | call (num a b c:Int)
 | done (val err:Int)
abbrev j6:=List (Int×Int)->Node
def j6.after(s:j6)(x e:Int):j6:=λh=>s ((x,e)::h)
def sD(d:Int)(s:j6)(K:aa):aa×j6 :=
 match s [] with
 | .call e a b c=>((i5 K d e a b c).K,s.after (i5 K d e a b c).n (i5 K d e a b c).e)
 | .done _ _=>(K,s)
theorem Fi{s:j6}{K:aa}{c:Int}(h:s []=.call o p q c):sD m s K=((i5 K m o p q c).K,s.after (i5 K m o p q c).n (i5 K m o p q c).e):=by
 unfold sD;rw[h]
def GR(C:Ctx)(g:Gr):Prop :=
 g.status=.running/\mayWake V g=true/\∃a:Gr,a.status=.running/\(∀b k (u:Wd),u.heap[C.o.to]?=J (.chan b #[] false k k false)->bF V false g u=.go a (u.setChan C.o.to b #[] true k k false) (gU C.o.to))/\∃c,QuitsD V c 0 a
def tj(C:Ctx)(d:j6->List Nat->y6->List Fm'->Prop)(l:List ng)(a:Wd)(b:List Nat)(T:aa×j6)(g:Gr)(w:Wd):Prop :=
 Env C l T.1 w/\oz C b a w /\
 match T.2 [] with
 | .call _ _ _ _=>∃c B H F,g=vE C.o c/\At C l T.1 B H F false false w/\(∀i∈B,i∈b\/a.heap.size<=i)/\d T.2 B H (td C.o::c)
 | .done e f=>GR C g/\∃t F un I,w.heap[C.o.bo]?=J (.cells (R0 C f e F un I) t (0,0))
def yr(C:Ctx)(l:List ng)(K:aa)(a:Wd)(b:List Nat)(g:Gr)(w:Wd):Prop:=Env C l K w/\oz C b a w/\GR C g
def sV(C:Ctx):Nat->j6->List Nat->y6->List Fm'->Prop
 | 0,_,_,_,_=>True
 | n+1,s,B,H,cs =>
  (∀l K F un w d,At C l K B H F un false w->l6 V false (DL true (ep l)) (tj C (sV C n) l w B (sD C.slot s K)) (bG (N9 C.o cs) AK) (w.at d)) /\
  (∀l K F un w d,At C l K B H F un false w->l6 V false (DL true (ep l)) (yr C l K w B) (bG (N9 C.o cs) Ai) (w.at d))
theorem Env.at(E:Env C l K w)(d:Nat):Env C l K (w.at d):=⟨E.rep.same (af _) λ_ _ _=>rfl,E.oq.same Z,E.inv,⟨E.fit.soft,E.fit.clear⟩,E.ko,E.ap⟩
theorem At.at(A:At C l K B H F un I w)(d:Nat):At C l K B H F un I (w.at d):=⟨A.env.at d,A.mem,A.own,A.has,A.row,A.top,A.pC⟩
theorem oz.at{a:List Nat}(M:oz C a f w)(d:Nat):oz C a f (w.at d):=⟨M.size,M.block⟩
theorem Vh{a:Vu}{b:Bool}(h:R0 C m n k t v=R0 C o p a u b):k=a/\t=u/\v=b:=by
 have c:=congrArg (λr:Array Vu=>r[10]?) h;have d:=congrArg (λr:Array Vu=>r[11]?) h;have e:=congrArg (λr:Array Vu=>r[12]?) h;simp[R0]at c d e
 grind
theorem At.rF{g:List ng}{i:aa}(A:At C l K B H F un I w)(j:At C g i B H k t u f):k=F/\t=un/\u=I:=by
 let⟨m,h⟩:=A.row;let⟨n,d⟩:=j.row;rw[h]at d;let⟨e,_,_⟩:=Obj.cells.inj d;let⟨a,b,c⟩:=Vh e
 grind
theorem At.fewer(A:At C l K B H F un I w){pv':List Nat}{c:y6}(b:∀i∈pv',i∈B)(d:C.o.bo∈pv')(e:∀i∈pv',c i=H i):At C l K pv' c F un I w :=
 ⟨A.env,A.mem,⟨d,λi a=>A.own.ap i (b i a)⟩,λi a=>by rw[e i a];exact A.has i (b i a),by let⟨t,h⟩:=A.row;grind,A.top,λi a=>A.pC i (b i a)⟩
theorem At.set(A:At C l K B H F un I w){j:Nat}{x:Vu}{un' go':Bool}{free':Vu}(n:3<=j)(d:(R0 C 0 0 F un I).setIfInBounds j x=R0 C 0 0 free' un' go') :
  ∃t,At C l K B (H.set C.o.bo (.cells (R0 C 0 0 free' un' go') t (0,0))) free' un' go' (w.setCell (O C.o.bo j Q) x)/\oz C [C.o.bo] w (w.setCell (O C.o.bo j Q) x):=by
 let⟨t,f⟩:=A.blk;have b:=CN _ t j x w C.o.bo f;rw[d]at b;have a:∀k,k≠C.o.bo->(w.setCell (O C.o.bo j Q) x).heap[k]?=w.heap[k]?:=λk a=>by rw[heap_setCell,mY λe=>a e.symm]
 have M:oz C [C.o.bo] w (w.setCell (O C.o.bo j Q) x):=⟨by simp[cO],λk _ g _ _ _=>a k (by simpa using g)⟩;let⟨o,p,q,r,_⟩:=A.env.ap _ A.mem;refine⟨t,A.turn (A.env.rep.same (by simp[cO]) λk _ h=>a k (by grind)) A.env.inv ⟨λi m=>?_,(V7 A.clear.lk (aW _)).1.nz⟩ M b,M⟩
 by_cases e:i=C.o.bo
 .grind
 .let⟨c,s,h⟩:=A.env.fit.soft i m
  grind
theorem Kh(A:At C l K B H F un true w)(k a b c:Int)(g:Fm')(h:List Fm'){Stop:Gr->Wd->Prop}(n:∀t j,At C l K B (H.set C.o.bo (.cells (R0 C 0 0 F un true) t (0,0))) F un true j->oz C [C.o.bo] w j->∀d,l6 V false (DL true (ep l)) Stop (G (g.finish (.tuple #[Y U 0,Y U 3])) h) (j.at d))(m:Nat) :
  l6 V false (DL true (ep l)) Stop (G (ay V 117 (wZ C.o k a b c) .normal) (g::h)) (w.at m):=by
 refine XT A k a b c g h (λd=>?_) m;have o:∀i∈B,i<w.heap.size:=λi f=>(Zj (A.has i f)).1;have p:At C l K (w.heap.size::B) (H.set w.heap.size (qV a b c)) F un true (w.alloc (qV a b c)):=A.alloc mX;let⟨t,q,r⟩:=p.set (j:=12) (x:=Bo true) (free':=F) (un':=un) (go':=true) Za Z;refine n t _ (q.fewer (λi f=>ah _ f) A.own.rc λi f=>?_) ((GS [C.o.bo]).trans r λi f=>.inl f) d
 by_cases e:i=C.o.bo
 .subst e;rw[y6.na,y6.na]
 .have:=o i f;rw[y6.lj e,y6.lj e,y6.lj Za]
theorem RI(s:j6)(j a b c:Int)(P:s []=.call j a b c)(r:Fm')(u:List Fm')(B:List Nat)(H:y6)(F:Vu)(n:Nat){un:Bool}(hB:∀m,m<=n->(un=false->m<n)->∀l f o K t w,At C l (i5 K C.slot j a b c).K B (H.set C.o.bo (.cells (R0 C 0 0 F false ((i5 K C.slot j a b c).e==3)) t (0,0))) F false ((i5 K C.slot j a b c).e==3) w->oz C o f w->(∀i∈B,i∈o\/f.heap.size<=i) ->
   ∀d,l6 V false (DL true (ep l)) (tj C (sV C m) l f o ((i5 K C.slot j a b c).K,s.after (i5 K C.slot j a b c).n (i5 K C.slot j a b c).e)) (G (r.finish (.tuple #[Y U (i5 K C.slot j a b c).n,Y U (i5 K C.slot j a b c).e])) u) (w.at d))(hE:∀l f o K t w,At C l K B (H.set C.o.bo (.cells (R0 C 0 0 F false true) t (0,0))) F false true w->oz C o f w->(∀i∈B,i∈o\/f.heap.size<=i) ->
   ∀d,l6 V false (DL true (ep l)) (yr C l K f o) (G (r.finish (.tuple #[Y U 0,Y U 3])) u) (w.at d)){l:List ng}{o:List Nat}{K:aa}{w:Wd}{T:aa×j6}(A:At C l K B H F un false w)(M:oz C o f w)(hp:∀i∈B,i∈o\/f.heap.size<=i)(hT:(un=true/\T=sD C.slot s K)\/(un=false/\T=(K,s)))(d0:Nat) :
  l6 V false (DL true (ep l)) (tj C (sV C n) l f o T) (G (ay V 117 (wZ C.o j a b c) .normal) (r::u)) (w.at d0):=by
 have E:∀i∈B,i<w.heap.size:=λi g=>(Zj (A.has i g)).1;have a':w.heap.size≠C.o.bo:=λe=>by have:=E _ A.own.rc;omega
 have b':∀m,m<=n->(un=false->m<n)->∀l f o K z v,At C l K (w.heap.size::B) (H.set w.heap.size (qV a b c)) F z false v\/(∃t,At C l K (w.heap.size::B) ((H.set w.heap.size (qV a b c)).set C.o.bo (.cells (R0 C 0 0 F z false) t (0,0))) F z false v)->oz C o f v->(∀i∈B,i∈o\/f.heap.size<=i) ->
   ∀d,l6 V false (DL true (ep l)) (tj C (sV C m) l f o ((i5 K C.slot j a b c).K,s.after (i5 K C.slot j a b c).n (i5 K C.slot j a b c).e)) (G ((wI C.o.bo w.heap.size j a b c).finish (Bo true)) (r::u)) (v.at d):=by
  intro m hm d' l f o K z v hA L c' d;have I:∀N,At C l K (w.heap.size::B) N F z false v->N w.heap.size=qV a b c->(∀i∈B,i≠C.o.bo->N i=H i) ->
    l6 V false (DL true (ep l)) (tj C (sV C m) l f o ((i5 K C.slot j a b c).K,s.after (i5 K C.slot j a b c).n (i5 K C.slot j a b c).e)) (G ((wI C.o.bo w.heap.size j a b c).finish (Bo true)) (r::u)) (v.at d):=by
   intro N p hb hH;refine Rg (C:=C) j a b c p.clear r u (λd=>?_) d;refine a8H p j a b c (ao ..) a' hb r u (λt D x y=>?_) d;refine hB m hm d' l f o K t D (x.fewer (λi g=>ah _ g) A.own.rc λi g=>?_) (L.trans y λi g=>by cases Zi g;exact c' _ A.own.rc) c'
   by_cases e:i=C.o.bo
   .subst e;rw[y6.na,y6.na]
   .rw[y6.lj e,y6.lj e];grind
  rcases hA with p|⟨t,p⟩
  .exact I _ p (y6.na) λi g _=>by have:=E i g;rw[y6.lj Za]
  .exact I _ p (by rw[y6.lj a',y6.na]) λi g e=>by have:=E i g;rw[y6.lj e,y6.lj Za]
 have p:At C l K (w.heap.size::B) (H.set w.heap.size (qV a b c)) F un false (w.alloc (qV a b c)):=A.alloc mX;have L:oz C o f (w.alloc (qV a b c)):=M.trans (GS []) (λi g=>by cases g);refine c0j A j a b c r u (λd=>?_) d0;rcases hT with⟨rfl,rfl⟩|⟨rfl,rfl⟩
 .rw[Fi P];exact Yg (o:=C.o) p.clear (p.cell Z) (b' n (af _) (λh=>by cases h) l f o K true _ (.inl p) L hp) d
 .refine Uh (o:=C.o) p.mem p.clear p.env.ko (p.cell Z) (λd=>.stop ?_) d;refine⟨p.env.at d,L.at d,?_⟩;show match s [] with|.call _ _ _ _=>_|.done _ _=>_
  rw[P];refine⟨_,w.heap.size::B,H.set w.heap.size (qV a b c),F,Z,?_,λi g=>?_,?_⟩
  .exact p.at d
  .rcases ae.1 g with rfl|g
   .exact .inr M.size
   .exact hp i g
  .cases n with
   | zero=>exact trivial
   | succ m =>
    refine⟨λR S W e' D d q=>?_,λR S W e' D d q=>?_⟩
    .obtain⟨rfl,rfl,_⟩:=p.rF q;rw[Fi P];let⟨t,x,y⟩:=q.set (j:=11) (x:=Bo true) (free':=W) (un':=true) (go':=false) Za Z;refine NM (o:=C.o) q.mem q.clear q.env.ko (q.cell (j:=11) Z) (λd=>?_) d;refine LW (o:=C.o) x.clear true (λd=>?_) d;exact b' m (Nat.le_succ _) (λ_=>Nat.lt_succ_self _) R D _ S true _ (.inr ⟨t,x⟩) (y.trans (oz.refl _ [] _) (λi g=>by cases g) |> λh=>⟨h.size,λk X h0 h1 h2 h3=>h.block k X (λe=>h0 (by cases Zi e;exact ah _ A.own.rc)) h1 h2 h3⟩) (λi g=>.inl (ah _ g)) d
    .obtain⟨rfl,rfl,_⟩:=p.rF q;refine MH (o:=C.o) q.mem q.clear (λd=>?_) d;refine LW (o:=C.o) q.clear false (λd=>?_) d;refine Y3 q j a b c r u (λd=>?_) d;let⟨t,x,y⟩:=q.set (j:=12) (x:=Bo true) (free':=W) (un':=false) (go':=true) Za Z;refine hE R D _ S t _ (x.fewer (λi g=>ah _ g) A.own.rc λi g=>?_) (⟨y.size,λk X h0 h1 h2 h3=>y.block k X (λe=>h0 (by cases Zi e;exact ah _ A.own.rc)) h1 h2 h3⟩) (λi g=>.inl (ah _ g)) d
     by_cases e:i=C.o.bo
     .subst e;rw[y6.na,y6.na]
     .have:=E i g;rw[y6.lj e,y6.lj e,y6.lj Za]
def oK(C:Ctx)(l:List ng)(K:aa)(B:List Nat)(H:y6)(F:Vu)(un I:Bool)(w:Wd):Prop:=∃a,At C l K (C.o.bo::B) a F un I w/\∀i∈B,i≠C.o.bo/\a i=H i
def Sub(B a:List Nat)(b:Wd):Prop:=∀i∈B,i∈a\/b.heap.size<=i
def Ph(C:Ctx)(un:Bool)(T:aa×j6)(s:j6)(K:aa):Prop:=(un=true/\T=sD C.slot s K)\/(un=false/\T=(K,s))
def BX(m:Nat)(un:Bool):Nat:=2*m+(if un then 1 else 0)
def Uy(C:Ctx)(n:Nat)(s:j6)(B:List Nat)(H:y6)(F:Vu)(I:Bool)(g:Gr):Prop :=
 ∀m l a b T K un w,BX m un<=n->oK C l K B H F un I w->oz C b a w->Sub (C.o.bo::B) b a->Ph C un T s K->∀d,l6 V false (DL true (ep l)) (tj C (sV C m) l a b T) g (w.at d)
def Jd(C:Ctx)(B:List Nat)(H:y6)(F:Vu)(g:Gr):Prop :=
 ∀l a b K un w,oK C l K B H F un true w->oz C b a w->Sub (C.o.bo::B) b a->∀d,l6 V false (DL true (ep l)) (yr C l K a b) g (w.at d)
def i9(C:Ctx)(n:Nat)(s:j6)(B:List Nat)(H:y6)(F:Vu)(I:Bool)(g:Gr):Prop:=Uy C n s B H F I g/\(I=true->Jd C B H F g)
abbrev M(a:Type):=Bool->List (Int×Int)->Node⊕(a×Bool×List (Int×Int))
def M.pure(a:L):M L:=λI h=>.inr (a,I,h)
def M.bind(m:M L)(f:L->M N):M N:=λI h=>match m I h with
 | .inl x=>.inl x
 | .inr (a,go',h')=>f a go' h'
def M.then(m:M L)(I:Bool)(k:L->Bool->j6):j6:=λh=>match m I h with
 | .inl x=>x
 | .inr (a,go',h')=>k a go' h'
theorem M.fi(m:M L)(f:L->M N)(I:Bool)(k:N->Bool->j6):(m.bind f).then I k=m.then I (λa b=>(f a).then b k):=by
 funext h;unfold M.then M.bind
 cases m I h with
 | inl x=>rfl
 | inr r=>rfl
theorem M.nO(a:L)(I:Bool)(k:L->Bool->j6):(M.pure a).then I k=k a I:=rfl
def E5(d a b c:Int):M (Int×Int):=λI h=>if I then .inr ((0,3),true,h) else match h with
 | []=>.inl (.call d a b c)
 | (x,e)::h'=>.inr ((x,e),e==3,h')
variable{n:Nat}{s:j6}{g:Gr}
theorem oK.of{l:List ng}{K:aa}{un:Bool}{w:Wd}{a:y6}(A:At C l K (C.o.bo::B) a F un I w)(h:∀i∈B,i≠C.o.bo/\a i=H i):oK C l K B H F un I w:=⟨a,A,h⟩
theorem AL{H b:y6}{x:Obj}(h:∀i∈B,i≠C.o.bo/\b i=H i):∀i∈B,i≠C.o.bo/\(b.set C.o.bo x) i=H i:=λi a=>⟨(h i a).1,by rw[y6.lj (h i a).1];exact(h i a).2⟩
theorem i9.less(h:i9 C n s B H F I g)(b:a<=n):i9 C a s B H F I g :=
 ⟨λm l c d T K un w e=>h.1 m l c d T K un w (Zh e b),h.2⟩
theorem JQ(f a b c:Int)(p:Fm')(q:List Fm')(k:(Int×Int)->Bool->j6)(X:I=true->i9 C n (k (0,3) true) B H F true (G (p.finish (.tuple #[Y U 0,Y U 3])) q))(h2:I=false->∀R,R<n->∀x e y,y=(e==3)->i9 C R (k (x,e) y) B H F y (G (p.finish (.tuple #[Y U x,Y U e])) q))(v:I=false->Jd C B H F (G (p.finish (.tuple #[Y U 0,Y U 3])) q)) :
  i9 C n ((E5 f a b c).then I k) B H F I (G (ay V 117 (wZ C.o f a b c) .normal) (p::q)):=by
 cases I with
 | true =>
  have v:=X Z;refine⟨λm l j o T K un w u ⟨z,A,r⟩ M S P d=>?_,λ_ l j o K un w ⟨z,A,r⟩ M S d=>?_⟩
  .refine Kh A f a b c p q (λt D E L=>?_) d;exact v.1 m l j o T K un D u (.of E (AL r)) (M.trans L λi N=>by cases Zi N;exact S _ (ao ..)) S P
  .refine Kh A f a b c p q (λt D E L=>?_) d;exact v.2 Z l j o K un D (.of E (AL r)) (M.trans L λi N=>by cases Zi N;exact S _ (ao ..)) S
 | false =>
  refine⟨λm l j o T K un w u ⟨z,A,r⟩ M S P d=>?_,λh=>by cases h⟩;refine RI ((E5 f a b c).then false k) f a b c Z p q (C.o.bo::B) z F m (un:=un) (λW c' b' l j o K t w A M S d=>?_) (λl j o K t w A M S d=>?_) A M S P d
  .have hr:BX W false<n:=by
    unfold BX at u ⊢
    cases un with
    | false=>have:=b' Z;simp at u ⊢;omega
    | true=>simp at u ⊢;omega
   exact(h2 Z _ hr (i5 K C.slot f a b c).n (i5 K C.slot f a b c).e _ Z).1 W l j o _ _ false w (af _) (.of A (AL r)) M S (.inr ⟨Z,Z⟩) d
  .exact v Z l j o K false w (.of A (AL r)) M S d
theorem wB(f a b c:Int){k:(Int×Int)->Bool->j6}(h:∀x e d,d=(e==3)->i9 C n (k (x,e) d) B H F d (G (S.finish (.tuple #[Y U x,Y U e])) E)) :
  i9 C n ((E5 f a b c).then I k) B H F I (G (ay V 117 (wZ C.o f a b c) .normal) (S::E)) :=
 JQ f a b c S E k (λ_=>h 0 3 true Z) (λ_ m i x e d j=>(h x e d j).less (Nat.le_of_lt i)) λ_=>(h 0 3 true Z).2 Z
theorem X7{R:List Nat->y6->Vu->Gr->Prop}(u:∀l K un w (Stop:Gr->Wd->Prop),oK C l K B H F un I w->(∀a b c e f,R a b c e->oK C l K a b c un I f->oz C (C.o.bo::B) w f->Sub (C.o.bo::a) (C.o.bo::B) w->∀d,l6 V false (DL true (ep l)) Stop e (f.at d))->∀d,l6 V false (DL true (ep l)) Stop g (w.at d))(v:∀a b c e,R a b c e->i9 C n s a b c I e):i9 C n s B H F I g:=by
 have x:∀ {a k:List Nat} {j w:Wd},Sub (C.o.bo::B) k j->Sub (C.o.bo::a) (C.o.bo::B) w->j.heap.size<=w.heap.size->Sub (C.o.bo::a) k j:=λy z A i D=>by
  rcases z i D with h|h
  .exact y i h
  .exact .inr (Zh A h)
 refine⟨λm l j k T K un w E o M S P d=>?_,λL l j k K un w o M S d=>?_⟩
 .exact u l K un w _ o (λa b c e f p q r t=>(v a b c e p).1 m l j k T K un f E q (M.trans r S) (x S t M.size) P) d
 .subst L;exact u l K un w _ o (λa b c e f p q r t=>(v a b c e p).2 Z l j k K un f q (M.trans r S) (x S t M.size)) d
theorem zC{a:Gr}(k:∀l K un w (Stop:Gr->Wd->Prop),oK C l K B H F un I w->(∀d,l6 V false (DL true (ep l)) Stop a (w.at d))->∀d,l6 V false (DL true (ep l)) Stop g (w.at d))(m:i9 C n s B H F I a):i9 C n s B H F I g :=
 X7 (R:=λb c e f=>b=B/\c=H/\e=F/\f=a) (λl K un w Stop j h d=>k l K un w Stop j (h B H F a w ⟨Z,Z,Z,Z⟩ j (.refl _ _ _) λi o=>.inl o) d)
  (λb c e f ⟨p,q,r,t⟩=>by subst p q r t;exact m)
theorem Gk{a:Gr}(b:g.status=.running)(h:∀u,bF V false g u=.go a u #[])(c:i9 C n s B H F I a):i9 C n s B H F I g :=
 zC (λl K un w Stop f e d=>mc b h e (d0:=d)) c
theorem oK.clear{l:List ng}{K:aa}{un:Bool}{w:Wd}(h:oK C l K B H F un I w):Clear w:=by let⟨a,A,_⟩:=h;exact A.clear
theorem oK.blk{l:List ng}{K:aa}{un:Bool}{w:Wd}(h:oK C l K B H F un I w)(b:a∈B):w.heap[a]?=J (H a):=by
 let⟨d,A,c⟩:=h;rw[A.has a (ah _ b),(c a b).2]
theorem oK.cell{l:List ng}{K:aa}{un:Bool}{w:Wd}(h:oK C l K B H F un I w){i:Nat}(b:i∈B){c:Array Vu}{f:Nat×Nat}(d:H i=.cells c x f){j:Nat}(e:c[j]?=J k):(w.at a).cell? (O i j Q)=J k:=by
 have:=h.blk b;show w.cell? _=_;simp only[aC,this,d];simpa using e
theorem oK.wV{l:List ng}{K:aa}{un:Bool}{w:Wd}{d:Nat}(h:oK C l K B H F un I w)(b:(R0 C 0 0 F un I)[a]?=J k):(w.at d).cell? (O C.o.bo a Q)=J k:=by
 let⟨c,A,e⟩:=h;exact A.cell b
theorem VL{g':Nat->Gr}{X:Obj}(t:Obj.nz X)(u:∀l K un w b (Stop:Gr->Wd->Prop),b=w.heap.size->oK C l K B H F un I w->(∀d,l6 V false (DL true (ep l)) Stop (g' b) ((w.alloc X).at d))->∀d,l6 V false (DL true (ep l)) Stop g (w.at d))(v:∀b,b∉B->b≠C.o.bo->i9 C n s (b::B) (H.set b X) F I (g' b)):i9 C n s B H F I g:=by
 refine X7 (R:=λj c k m=>∃b,b∉B/\b≠C.o.bo/\j=b::B/\c=H.set b X/\k=F/\m=g' b) (λl K un w Stop x h d=>?_) (λj c k m ⟨b,y,z,D,E,L,N⟩=>by subst D E L N;exact v b y z);let⟨c,A,f⟩:=x;have o:∀i∈C.o.bo::B,i<w.heap.size:=λi a=>(Zj (A.has i a)).1;have p:w.heap.size∉B:=λa=>by have:=o _ (ah _ a);omega
 have q:w.heap.size≠C.o.bo:=λe=>by have:=o _ (ao ..);omega
 refine u l K un w _ Stop Z ⟨c,A,f⟩ (h _ _ _ _ _ ⟨w.heap.size,p,q,Z,Z,Z,Z⟩ ?_ (GS _) λi a=>?_) d
 .refine⟨c.set w.heap.size X,(A.alloc t).fewer (λi a=>?_) (ao ..) λ_ _=>rfl,λi a=>?_⟩
  .rcases ae.1 a with rfl|a
   .exact ah _ (ao ..)
   .rcases ae.1 a with rfl|a
    .exact ao ..
    .exact ah _ (ah _ a)
  .rcases ae.1 a with rfl|a
   .exact⟨q,by rw[y6.na,y6.na]⟩
   .have r:i≠w.heap.size:=λe=>p (e▸a);exact⟨(f i a).1,by rw[y6.lj r,y6.lj r];exact(f i a).2⟩
 .rcases ae.1 a with rfl|a
  .exact .inl (ao ..)
  .rcases ae.1 a with rfl|a
   .exact .inr (af _)
   .exact .inl (ah _ a)
theorem ya{X:Obj}(p:a∉B)(h:i9 C n s B H F I g):i9 C n s (a::B) (H.set a X) F I g:=by
 have k:∀ {l K un I w},oK C l K (a::B) (H.set a X) F un I w->oK C l K B H F un I w:=by
  rintro l K un I w ⟨q,A,r⟩;refine⟨q,A.fewer (λi b=>?_) (ao ..) λ_ _=>rfl,λi b=>?_⟩
  .rcases ae.1 b with rfl|b
   .exact ao ..
   .exact ah _ (ah _ b)
  .let⟨t,u⟩:=r i (ah _ b);have v:i≠a:=λe=>p (e▸b);exact⟨t,by rw[u,y6.lj v]⟩
 have o:∀ {c f},Sub (C.o.bo::a::B) c f->Sub (C.o.bo::B) c f:=λh i b=>by
  rcases ae.1 b with rfl|b
  .exact h _ (ao ..)
  .exact h i (ah _ (ah _ b))
 exact⟨λm l f c T K un w x j M S P d=>h.1 m l f c T K un w x (k j) M (o S) P d,λy l f c K un w j M S d=>h.2 y l f c K un w (k j) M (o S) d⟩
theorem At.qb{l:List ng}{K:aa}{un:Bool}{w:Wd}(A:At C l K B H F un I w)(q:Fit (ep l) f)(r:w.heap.size<=f.heap.size)(j:∀k,k<w.heap.size->f.heap[k]?=w.heap[k]?){bs:List Nat}{Hn:y6}(u:∀b∈bs,w.heap.size<=b/\f.heap[b]?=J (Hn b)) :
  At C l K (B++bs) (λi=>if i<w.heap.size then H i else Hn i) F un I f:=by
 have m:∀i∈B,i<w.heap.size:=λi a=>(Zj (A.has i a)).1;have d:=A.env.rep;refine⟨⟨d.same r λk h _=>j k h,A.env.oq.same (j 0 A.env.oq.lt),A.env.inv,q,λo e=>?_,A.env.ap⟩,A.mem,⟨fK _ A.own.rc,λi a=>?_⟩,λi a=>?_,?_,A.top,λi a p o e=>?_⟩
 .let⟨c,t,p,v⟩:=A.env.ko o e
  grind
 .rcases bZ.1 a with a|a
  .exact A.own.ap i a
  .have:=(u i a).1;have:=d.lk;have:=d.lf;have:=d.ls;have:=d.ld;grind
 .rcases bZ.1 a with a|a
  .have:=m i a;simp only[this,if_true];rw[j i this];exact A.has i a
  grind
 .let⟨t,h⟩:=A.row;have:=m _ A.own.rc
  grind
 .rcases bZ.1 a with a|a
  .exact A.pC i a p o e
  .have:=KO.lt A.env.ko e;grind
theorem oK.more{l:List ng}{K:aa}{un:Bool}{w:Wd}(m:oK C l K B H F un I w)(o:Fit (ep l) f)(c:w.heap.size<=f.heap.size)(d:∀k,k<w.heap.size->f.heap[k]?=w.heap[k]?){bs:List Nat}{Hn:y6}(p:∀b∈bs,w.heap.size<=b/\f.heap[b]?=J (Hn b))(q:∀i∈B,Hn i=H i) :
  oK C l K (bs++B) Hn F un I f/\oz C (C.o.bo::B) w f/\Sub (C.o.bo::(bs++B)) (C.o.bo::B) w/\∀b∈bs,b∉B/\b≠C.o.bo:=by
 let⟨u,A,j⟩:=m;have r:∀i∈C.o.bo::B,i<w.heap.size:=λi a=>(Zj (A.has i a)).1;have t:∀b∈bs,b∉B/\b≠C.o.bo:=λb v=>⟨λh=>by grind,λe=>by grind⟩
 refine⟨⟨_,(A.qb o c d p).fewer (pv':=C.o.bo::(bs++B)) (λi a=>?_) (ao ..) λ_ _=>rfl,λi a=>?_⟩,⟨c,λk h _ _ _ _=>d k h⟩,λi a=>?_,t⟩
 .grind
 .rcases bZ.1 a with a|a
  .grind
  .refine⟨(j i a).1,?_⟩;have:=r i (ah _ a);simp only[this,if_true];rw[(j i a).2,q i a]
 grind
inductive nI where
 | v (x:Vu)
 | p (i o:Nat)
inductive pY where
 | c (x:nI)
 | g (l:List nI)
inductive Sv where
 | c (x:nI)
 | g (l:List nI)
 | t (l:List pY)
abbrev ou:=List (Nat×Nat)
def nJ:ou->Nat->Nat×Nat
 | [],_=>(0,0)
 | x::_,0=>x
 | _::r,n+1=>nJ r n
def nI.den(a:ou):nI->Vu
 | .v x=>x
 | .p i o=>Po (J (O ((nJ a i).1) ((nJ a i).2+o) Q))
def pY.den(a:ou):pY->Vu
 | .c x=>x.den a
 | .g l=>.agg (l.map (·.den a)).toArray
def Sv.den(a:ou):Sv->Vu
 | .c x=>x.den a
 | .g l=>.agg (l.map (·.den a)).toArray
 | .t l=>.tuple (l.map (·.den a)).toArray
abbrev l9:=List (Nat×Sv)
abbrev Mem:=List (Nat×Nat×nI)
def qh(a:ou):l9->List (Nat×Vu)
 | []=>[]
 | p::r=>(p.1,p.2.den a)::qh a r
def nI.ok(n:Nat):nI->Prop
 | .v _=>True
 | .p i _=>i<n
def pY.ok(n:Nat):pY->Prop
 | .c x=>x.ok n
 | .g l=>∀x∈l,x.ok n
def Sv.ok(n:Nat):Sv->Prop
 | .c x=>x.ok n
 | .g l=>∀x∈l,x.ok n
 | .t l=>∀x∈l,x.ok n
theorem R9:∀(a q:ou) (i:Nat),i<a.length->nJ (a++q) i=nJ a i
 | _::_,_,0,_=>rfl
 | _::r,q,i+1,h=>R9 r q i (mI h)
theorem ti:∀(a:ou) (x:Nat×Nat),nJ (a++[x]) a.length=x
 | [],x=>rfl
 | _::r,x=>ti r x
theorem nI.oc{ρ:ou}(q:ou){x:nI}(h:x.ok ρ.length):x.den (ρ++q)=x.den ρ:=by
 cases x with
 | v x=>rfl
 | p i o=>simp only[nI.den,R9 ρ q i h]
theorem pY.oc{ρ:ou}(q:ou){x:pY}(h:x.ok ρ.length):x.den (ρ++q)=x.den ρ:=by
 cases x with
 | c x=>exact nI.oc q h
 | g l=>simp only[pY.den,iI λx a=>nI.oc q (h x a)]
theorem Sv.oc{ρ:ou}(q:ou){x:Sv}(h:x.ok ρ.length):x.den (ρ++q)=x.den ρ:=by
 cases x with
 | c x=>exact nI.oc q h
 | g l=>simp only[Sv.den,iI λx a=>nI.oc q (h x a)]
 | t l=>simp only[Sv.den,iI λx a=>pY.oc q (h x a)]
theorem nI.oR{n:Nat}(b:n<=a){x:nI}(h:x.ok n):x.ok a:=by
 cases x with
 | v x=>trivial
 | p i o=>exact Zg h b
theorem pY.oR{n:Nat}(b:n<=a){x:pY}(h:x.ok n):x.ok a:=by
 cases x with
 | c x=>exact nI.oR b h
 | g l=>exact λx d=>nI.oR b (h x d)
theorem Sv.oR{n:Nat}(b:n<=a){x:Sv}(h:x.ok n):x.ok a:=by
 cases x with
 | c x=>exact nI.oR b h
 | g l=>exact λx d=>nI.oR b (h x d)
 | t l=>exact λx d=>pY.oR b (h x d)
theorem s7{b:ou}:∀ {env:l9},(a,k)∈qh b env↔∃s,(a,s)∈env/\k=s.den b
 | []=>by simp[qh]
 | (u,s)::r=>by
  simp only[qh,ae,cR,s7 (env:=r)]
  grind
theorem PN{a:ou}(q:ou):∀ {b:l9},(∀p∈b,p.2.ok a.length)->qh (a++q) b=qh a b
 | [],_=>rfl
 | p::r,h=>by
  simp only[qh];rw[Sv.oc q (h p (ao ..)),PN q λx c=>h x (ah _ c)]
structure fx (sft:Nat->Nat) (W:List Nat) (ro:Nat) (w0:Wd) (ρ:ou) (m:Mem) (sz:Nat) (env:l9) (a:cZ) (w:Wd):Prop where
 lv:pK sz (qh ρ env) a
 ce:∀e∈m,e.1<ρ.length/\e.2.2.ok ρ.length/\w.cell? (O ((nJ ρ e.1).1) ((nJ ρ e.1).2+e.2.1) Q)=J (e.2.2.den ρ)
 wf:∀p∈env,p.2.ok ρ.length
 bl:∀i,i<ρ.length->(∃c t,w.heap[(nJ ρ i).1]?=J (.cells c t (0,0)))/\sft (nJ ρ i).1=0
 ij:∀i j,i<ρ.length->j<ρ.length->i≠j->(nJ ρ i).1≠(nJ ρ j).1
 own:∀i,ro<=i->i<ρ.length->(nJ ρ i).1∈W\/w0.heap.size<=(nJ ρ i).1
 size:w0.heap.size<=w.heap.size
 old:∀k,k<w0.heap.size->k∉W->w.heap[k]?=w0.heap[k]?
 fit:Fit sft w
 new:∀k,w0.heap.size<=k->sft k=0
abbrev i0:dM:=Y U 0
abbrev b0:dM:=Bo false
abbrev s0:dM:=Sc Q 0 0
abbrev p0:dM:=Po Q
def sU:List (Nat×Bool×List Vu):=[(3,false,[i0]),(45,false,[i0]),(4,false,[b0]),(103,false,[s0]),(139,false,[s0]),(135,false,[s0]),(115,false,[s0]),(116,false,[s0]),(112,false,[s0]),(88,false,[s0]),(66,false,[s0]),(72,false,[s0]),(83,false,[s0]),(38,false,[s0]),(39,false,[s0]),(142,false,[p0]),(167,false,[p0]),(37,false,[p0]),(58,false,[p0]),(56,false,[p0]),(36,false,[p0]),(40,false,[p0]),(32,false,[p0]),(111,false,[s0]),(133,false,[p0]),(25,true,[i0,i0,i0]),(147,true,[i0,i0]),(144,true,[i0,i0,i0,i0,b0,i0,i0]),(137,true,[i0,i0,i0,b0,s0,s0,s0,s0]),(169,true,[p0,i0,s0]),(27,true,[i0,i0,i0]),(92,true,[i0,i0,i0,i0,i0]),(109,true,[s0,s0,s0]),(118,true,[p0,s0,s0,s0]),(42,true,[p0,p0,s0,s0,p0]),(29,true,[i0,i0,i0,i0,i0,i0,i0,i0,i0,b0]),(23,true,[i0,i0,i0]),(55,true,[s0,s0,s0,s0]),(82,true,[i0,i0,i0,i0,b0,i0,b0,i0,b0,i0,b0,i0,b0,i0,b0,i0,b0,i0,b0,i0]),(71,true,[i0,i0,i0,i0,i0,i0]),(87,true,[i0,i0,i0,i0,i0]),(24,false,[s0]),(68,true,[s0,i0]),(50,false,[s0]),(74,true,[s0,i0]),(51,false,[s0]),(85,true,[s0,i0]),(52,false,[s0]),(90,true,[s0,i0]),(53,false,[s0])]
def GL(t:Nat)(a:Bool)(z:List Vu):Prop:=(V.info? t).map (·.size)=J z.length/\(V.info? t).bind (·.zero)=J (match a with|true=>.agg z.toArray|false=>z.headD Ud)/\(V.underlying t).map (·.isRow)=J a
def sL(t:Nat):List (Nat×Bool×List Vu)->Option (Bool×List Vu)
 | []=>Q
 | (t',x)::r=>match aG t t' with
  | true=>J x
  | false=>sL t r
theorem NC{x:Bool×List Vu}:∀ {l:List (Nat×Bool×List Vu)},sL a l=J x->(a,x)∈l
 | (t',y)::r,h=>by
  unfold sL at h;split at h
  .simp_all
  .exact ah _ (NC h)
theorem SC:∀p∈sU,GL p.1 p.2.1 p.2.2:=by
 unfold sU
 repeat(refine ib.2 ⟨⟨by kernel_rfl,by kernel_rfl,by kernel_rfl⟩,?_⟩)
 exact λ_ h=>nomatch h
theorem X3{t:Nat}{row:Bool}{z:List Vu}(h:sL t sU=J (row,z)):GL t row z:=SC (t,row,z) (NC h)
def Bl:List (Nat×Nat×Nat×Nat):=[(114,0,0,1),(114,1,1,1),(114,2,2,1),(141,3,3,1),(141,4,4,1),(141,5,5,5),(141,6,10,1),(141,7,11,1),(141,8,12,1),(169,0,0,1),(169,1,1,1),(169,2,2,1),(137,0,0,3),(137,1,3,1),(137,2,4,3),(137,3,7,1),(144,0,0,1),(144,1,1,3),(144,2,4,1),(144,3,5,1),(144,4,6,1),(147,0,0,1),(147,1,1,1),(118,0,0,1),(118,1,1,1),(118,2,2,1),(118,3,3,1),(42,0,0,1),(42,1,1,1),(42,2,2,1),(42,3,3,1),(42,4,4,1),(29,0,0,1),(29,1,1,1),(29,2,2,1),(29,3,3,3),(29,4,6,3),(29,5,9,1),(27,0,0,1),(27,1,1,1),(27,2,2,1),(92,0,0,3),(92,1,3,1),(92,2,4,1),(109,0,0,1),(109,1,1,1),(109,2,2,1),(23,0,0,1),(23,1,1,1),(23,2,2,1),(82,0,0,1),(82,1,1,1),(82,2,2,1),(82,3,3,8),(82,4,11,8),(82,5,19,1),(76,0,0,1),(76,1,1,1),(79,0,0,1),(79,1,1,1),(71,0,0,1),(71,1,1,1),(71,2,2,4),(55,0,0,1),(55,1,1,1),(55,2,2,1),(55,3,3,1),(87,0,0,1),(87,1,1,1),(87,2,2,1),(87,3,3,1),(87,4,4,1),(68,0,0,1),(68,1,1,1),(74,0,0,1),(74,1,1,1),(85,0,0,1),(85,1,1,1),(90,0,0,1),(90,1,1,1)]
def zQ(t f:Nat):List (Nat×Nat×Nat×Nat)->Option (Nat×Nat)
 | []=>Q
 | (t',f',x)::r=>match aG t t'&&aG f f' with
  | true=>J x
  | false=>zQ t f r
theorem IL{x:Nat×Nat}:∀ {l:List (Nat×Nat×Nat×Nat)},zQ a b l=J x->(a,b,x)∈l
 | (t',f',y)::r,h=>by
  unfold zQ at h;split at h
  .simp_all
  .exact ah _ (IL h)
theorem MG:∀p∈Bl,c7c p.1 p.2.1 p.2.2.1:=by
 unfold Bl
 repeat(refine ib.2 ⟨λb o w=>(by go_simp),?_⟩)
 exact λ_ h=>nomatch h
def qG:Mem->Nat->Nat->Option nI
 | [],_,_=>Q
 | (i',o',c)::r,i,o=>match aG i i'&&aG o o' with
  | true=>J c
  | false=>qG r i o
def Aa(m:Mem)(i:Nat):Nat->Nat->Option (List nI)
 | 0,_=>J []
 | n+1,o=>match qG m i o with
  | some c=>match Aa m i n (o+1) with
   | some l=>J (c::l)
   | none=>Q
  | none=>Q
def BS(i o:Nat):Mem->Mem->Option Mem
 | [],acc=>J acc
 | (i',o',x)::r,acc=>match aG i i'&&aG o o' with
  | true=>BS i o r acc
  | false=>BS i o r ((i',o',x)::acc)
def stM(i o:Nat)(c:nI)(m:Mem):Option Mem:=match qG m i o with
 | some _=>match BS i o m [] with
  | some a=>J ((i,o,c)::a)
  | none=>Q
 | none=>Q
def zo(i:Nat):Nat->List nI->Mem->Option Mem
 | _,[],m=>J m
 | o,c::l,m=>match stM i o c m with
  | some a=>zo i (o+1) l a
  | none=>Q
def uz:nI->Bool
 | .v x=>x.oneCell'
 | .p _ _=>true
def Gi:List pY->Nat->Option Sv
 | [],_=>Q
 | .c x::_,0=>J (.c x)
 | .g l::_,0=>J (.g l)
 | _::r,n+1=>Gi r n
def ud:Sv->Option (List nI)
 | .c x=>match uz x with
  | true=>J [x]
  | false=>Q
 | .g l=>J l
 | .t _=>Q
def xW:List nI->Nat->List nI->Option (List nI)
 | z,0,[]=>J z
 | _::z,0,c::l=>match xW z 0 l with
  | some a=>J (c::a)
  | none=>Q
 | x::z,n+1,l=>match xW z n l with
  | some a=>J (x::a)
  | none=>Q
 | _,_,_=>Q
def yK(t k:Nat):Option (Nat×Nat):=match aG t 25 with
 | true=>match k with
  | 0=>J (0,1)
  | 1=>J (1,1)
  | 2=>J (2,1)
  | _=>Q
 | false=>zQ t k Bl
def CM(t:Nat):List nI->List (Nat×Sv)->Option (List nI)
 | z,[]=>J z
 | z,(k,s)::r=>match yK t k with
  | some (off,n)=>match ud s with
   | some l=>match aG l.length n with
    | true=>match xW z off l with
     | some a=>CM t a r
     | none=>Q
    | false=>Q
   | none=>Q
  | none=>Q
def Cl(a:aS->Option Sv):List (Nat×aS)->Option (List (Nat×Sv))
 | []=>J []
 | (k,x)::r=>match a x with
  | some s=>match Cl a r with
   | some l=>J ((k,s)::l)
   | none=>Q
  | none=>Q
def Im:ie->Int->Int->Option Vu
 | .lss,a,b=>J (Bo (decide (a<b)))
 | .leq,a,b=>J (Bo (decide (a<=b)))
 | .gtr,a,b=>J (Bo (decide (b<a)))
 | .geq,a,b=>J (Bo (decide (b<=a)))
 | .eql,a,b=>J (Bo (a==b))
 | .neq,a,b=>J (Bo (a != b))
 | .add,a,b=>J (Y U (IntKind.i64.wrap (a+b)))
 | .sub,a,b=>J (Y U (IntKind.i64.wrap (a - b)))
 | _,_,_=>Q
def Gy:ie->Bool->Bool->Option Vu
 | .eql,a,b=>J (Bo (a==b))
 | .neq,a,b=>J (Bo (a != b))
 | _,_,_=>Q
inductive Ef where
 | val (s:Sv)
 | st (i o:Nat) (l:List nI)
 | new (t:Nat) (l:List nI)
def wO:Option Sv->Option Ef
 | some s=>J (.val s)
 | none=>Q
def FV:List Nat:=[139,111,103,135,115,116,88,66,72,38,24,83,39,50,51,52,53]
def BA(t:Nat):List Nat->Bool
 | []=>false
 | x::r=>aG t x||BA t r
theorem Hd:∀ {l:List Nat},BA a l=true->a∈l
 | x::r,h=>by
  simp only[BA,cY]at h;rcases h with h|h
  .simp_all
  .exact ah _ (Hd h)
theorem Sr:∀t∈FV,∃e,V.underlying t=J (.slice e):=by
 intro t a;simp only[FV,ae,aj,or_false]at a;rcases a with rfl|rfl|rfl|rfl|rfl|rfl|rfl|rfl|rfl|rfl|rfl|rfl|rfl|rfl|rfl|rfl|rfl<;>exact⟨_,Z⟩
def Gh:List Nat:=[25,169,137,144,147,118,42,55,92,71,82,87,68,74,85,90]
def II(z:List Vu):Bool:=match z with
 | [.int _ _]=>true
 | [Bo _]=>true
 | [.slice _ _ _]=>true
 | [.pointer _]=>true
 | _=>false
def qw(m:Mem)(e:aS->Option Sv):Op->Option Ef
 | .move x=>wO (e x)
 | .assign x=>wO (e x)
 | .pick c x y=>match e c with
  | some (.c (.v (.bool true)))=>wO (e x)
  | some (.c (.v (Bo false)))=>wO (e y)
  | _=>Q
 | .unOp .not _ x=>match e x with
  | some (.c (.v (.bool b)))=>J (.val (.c (.v (Bo (!b)))))
  | _=>Q
 | .extract x n=>match e x with
  | some (.t l)=>wO (Gi l n)
  | _=>Q
 | .nilCheck x=>match e x with
  | some (.c (.p i o))=>J (.val (.c (.p i o)))
  | some (.c (.v (Po (J p))))=>J (.val (.c (.v (Po (J p)))))
  | _=>Q
 | .fieldAddr t x f=>match e x with
  | some (.c (.p i o))=>match zQ t f Bl with
   | some (d,_)=>J (.val (.c (.p i (o+d))))
   | none=>Q
  | some (.c (.v (Po (J (O b o Q)))))=>match zQ t f Bl with
   | some (d,_)=>J (.val (.c (.v (Po (J (O b (o+d) Q))))))
   | none=>Q
  | _=>Q
 | .load t x=>match e x with
  | some (.c (.p i o))=>match sL t sU with
   | some (false,_)=>match qG m i o with
    | some c=>J (.val (.c c))
    | none=>Q
   | some (true,z)=>match Aa m i z.length o with
    | some l=>J (.val (.g l))
    | none=>Q
   | none=>Q
  | _=>Q
 | .store t x y=>match e x with
  | some (.c (.p i o))=>match sL t sU with
   | some (_,z)=>match e y with
    | some s=>match ud s with
     | some l=>match aG l.length z.length&&l.all uz with
      | true=>J (.st i o l)
      | false=>Q
     | none=>Q
    | none=>Q
   | none=>Q
  | _=>Q
 | .alloc t=>match sL t sU with
  | some (true,z)=>J (.new t (z.map .v))
  | some (false,z)=>match II z with
   | true=>J (.new t (z.map .v))
   | false=>Q
  | none=>Q
 | .box t x=>match e x with
  | some s=>match ud s with
   | some l=>J (.new t l)
   | none=>Q
  | none=>Q
 | .build t j=>match sL t sU with
  | some (true,z)=>match Cl e j.toList with
   | some l=>match CM t (z.map .v) l with
    | some c=>match BA t Gh with
     | true=>J (.val (.g c))
     | false=>Q
    | none=>Q
   | none=>Q
  | _=>Q
 | .binOp h t x y _=>match e x,e y with
  | some (.c (.v (.int .i64 a))),some (.c (.v (.int .i64 b)))=>match aG t 3||Nat.beq t 45 with
   | true=>match Im h a b with
    | some v=>J (.val (.c (.v v)))
    | none=>Q
   | false=>Q
  | some (.c (.v (Bo a))),J (.c (.v (Bo b)))=>match aG t 4 with
   | true=>match Gy h a b with
    | some v=>J (.val (.c (.v v)))
    | none=>Q
   | false=>Q
  | _,_=>Q
 | .call c=>match c.callee,c.args.toList,c.argTypes.toList with
  | .builtin .len,[x],[t]=>match e x,BA t FV with
   | some (.c (.v (.slice _ n _))),true=>J (.val (.c (.v (Y U n))))
   | _,_=>Q
  | _,_,_=>Q
 | _=>Q
def yJ(a:ou)(m:Mem)(w:Wd):Prop:=∀e∈m,e.1<a.length/\e.2.2.ok a.length/\w.cell? (O ((nJ a e.1).1) ((nJ a e.1).2+e.2.1) Q)=J (e.2.2.den a)
theorem xV{c:nI}:∀ {m:Mem},qG m a b=J c->(a,b,c)∈m
 | (i',o',x)::r,h=>by
  unfold qG at h;split at h
  .simp_all
  .exact ah _ (xV h)
variable{ρ:ou}{m:Mem}
theorem ET(d:yJ ρ m w):∀ {n o:Nat} {l:List nI},Aa m a n o=J l->l.length=n/\(∀x∈l,x.ok ρ.length)/\w.rangeAt (nJ ρ a).1 ((nJ ρ a).2+o) (l.map (·.den ρ))
 | 0,o,l,h=>by
  cases Ze h;exact⟨Z,λ_ h=>(by cases h),λj v b=>(by cases b)⟩
 | n+1,o,l,h=>by
  unfold Aa at h;split at h
  .next c e =>
   split at h
   .next k f =>
    cases Ze h;let⟨p,q,i⟩:=ET d f;let⟨r,t,u⟩:=d _ (xV e);refine⟨by grind,λx y=>?_,λj v b=>?_⟩
    .grind
    .cases j with
     | zero =>
      grind
     | succ j =>
      have:=i j v b
      grind
   .cases h
  .cases h
theorem Ip:∀ {l:List pY} {n:Nat} {s:Sv},Gi l n=J s->(∀k,(∀x∈l,x.ok k)->s.ok k)/\(l.map (·.den ρ))[n]?=J (s.den ρ)
 | .c x::r,0,s,h=>by cases Ze h;exact⟨λk h=>h _ (ao ..),Z⟩
 | .g l::r,0,s,h=>by cases Ze h;exact⟨λk h=>h (.g l) (ao ..),Z⟩
 | .c x::r,n+1,s,h=>by
  let⟨a,b⟩:=Ip (l:=r) (n:=n) h;exact⟨λk h=>a k λx c=>h x (ah _ c),b⟩
 | .g x::r,n+1,s,h=>by
  let⟨a,b⟩:=Ip (l:=r) (n:=n) h;exact⟨λk h=>a k λx c=>h x (ah _ c),b⟩
theorem y8{x:nI}(h:uz x=true):(x.den ρ).oneCell'=true:=by
 cases x with
 | v x=>exact h
 | p i o=>rfl
theorem VJ(h:k.oneCell'=true):k.cells=#[k]:=by cases k<;>first|rfl|cases h
theorem xo{s:Sv}{l:List nI}(h:ud s=J l):(s.den ρ).cells=(l.map (·.den ρ)).toArray/\∀k,s.ok k->∀x∈l,x.ok k:=by
 cases s with
 | c x =>
  unfold ud at h;simp only at h;split at h
  .next a =>
   cases Ze h;exact⟨VJ (y8 a),λk h x a=>by cases Zi a;exact h⟩
  .cases h
 | g b =>
  cases Ze h;exact⟨Z,λk h=>h⟩
 | t l=>cases h
theorem Dv:∀ {z:List nI} {b:Nat} {l a:List nI},xW z b l=J a->b+l.length<=z.length/\a.length=z.length/\(∀k,(∀x∈z,x.ok k)->(∀x∈l,x.ok k)->∀x∈a,x.ok k)/\∀j,a[j]?=if b<=j/\j<b+l.length then l[j - b]? else z[j]?
 | z,0,[],a,h=>by
  have h:J z=J a:=by cases z<;>exact h
  grind
 | [],0,c::l,a,h=>by cases h
 | y::z,0,c::l,a,h=>by
  unfold xW at h;split at h
  .next e d =>
   cases Ze h;let⟨f,i,o,p⟩:=Dv d
   grind
  .cases h
 | [],n+1,l,a,h=>by cases l<;>cases h
 | y::z,n+1,l,a,h=>by
  have h:(match xW z n l with|some a=>J (y::a)|none=>Q)=J a:=by cases l<;>exact h
  split at h
  .next e d =>
   cases Ze h;let⟨f,i,o,p⟩:=Dv d
   grind
  .cases h
theorem GF(b:Nat):∀(l:List Vu) (n:Nat) (a:Array Vu),((l.zipIdx n).foldl (λa (x:Vu×Nat)=>a.setIfInBounds (b+x.2) x.1) a).size=a.size/\∀j,((l.zipIdx n).foldl (λa (x:Vu×Nat)=>a.setIfInBounds (b+x.2) x.1) a)[j]?=if b+n<=j/\j<b+n+l.length/\j<a.size then l[j - b - n]? else a[j]?
 | [],n,a=>⟨Z,λj=>by rw[mY (by simp;omega)];rfl⟩
 | v::l,n,a=>by
  let⟨c,d⟩:=GF b l (n+1) (a.setIfInBounds (b+n) v);rw[jG,List.foldl_cons]
  grind
theorem Vs{ρ:ou}{z l b:List nI}(h:xW z a l=J b):((l.map (·.den ρ)).toArray.zipIdx.foldl (λc (x:Vu×Nat)=>c.setIfInBounds (a+x.2) x.1) (z.map (·.den ρ)).toArray)=(b.map (·.den ρ)).toArray:=by
 let⟨d,e,_,f⟩:=Dv h;rw[Array.zipIdx_toArray,List.foldl_toArray']
 .apply Array.ext_getElem?;intro j;let⟨i,k⟩:=GF a (l.map (·.den ρ)) 0 (z.map (·.den ρ)).toArray
  grind
 .simp
theorem Ks{ρ:ou}:∀ {b:List (Nat×Sv)} {z c:List nI},CM a z b=J c->(∀k,(∀x∈z,x.ok k)->(∀p∈b,p.2.ok k)->∀x∈c,x.ok k)/\dJ (yK a) (z.map (·.den ρ)).toArray (b.map λp=>(p.1,p.2.den ρ))=J (c.map (·.den ρ)).toArray
 | [],z,c,h=>by
  cases Ze h;exact⟨λk d _=>d,Z⟩
 | (k,s)::b,z,c,h=>by
  unfold CM at h;split at h
  .next v n e =>
   split at h
   .next l o =>
    split at h
    .next f =>
     split at h
     .next y i =>
      let⟨q,r⟩:=xo (ρ:=ρ) o;let⟨A,D,t,E⟩:=Dv i;let⟨u,L⟩:=Ks (ρ:=ρ) h;have f:=Zl f;refine⟨λk d j=>u k (t k d (r k (j _ (ao ..)))) λp e=>j p (ah _ e),?_⟩;rw[cX];unfold dJ;simp only[e,q,aY,br];rw[mY (by simp[f];omega)];have:=Vs (ρ:=ρ) i
      grind
     .cases h
    .cases h
   .cases h
  .cases h
theorem JU{f:Nat->Option (Nat×Nat)}(h:∀k x,yK a k=J x->f k=J x):∀ {b:List (Nat×Vu)} {z:Array Vu},dJ (yK a) z b=J i->dJ f z b=J i
 | [],z,hf=>hf
 | (k,v)::r,z,hf=>by
  unfold dJ at hf ⊢
  cases c:yK a k with
  | none=>grind
  | some x =>
   rw[c]at hf;rw[h k x c];simp only at hf ⊢;split at hf
   .cases hf
   .next d=>rw[mY d];exact JU h hf
theorem Wk:∀t∈Gh,∀z,sL t sU=J (true,z)->∀(a:Array (Nat×Vu)) (b:Array Vu) (w:Wd),dJ (yK t) z.toArray a.toList=J b->(im t a).run V w=.ok (.agg b) w:=by
 intro t c z d a b w e;simp only[Gh,ae,aj,or_false]at c;rcases c with rfl|rfl|rfl|rfl|rfl|rfl|rfl|rfl|rfl|rfl|rfl|rfl|rfl|rfl|rfl|rfl <;>
 .obtain⟨_,rfl⟩:=ax (Ze d);unfold im;go_simp;rw[JU (λk x h=>by rcases k with _|_|_|_|_|_|k<;>first|exact h|cases h) e];rfl
theorem JH{p:cx}{w:Wd}(c:r.op=.load x z)(e:R.eval z=Po (J p))(a:(V.underlying x).map (·.isRow)=J false)(i:w.cell? p=J k):(Ex R.eval r).run V w=.ok (.value k) w:=by
 unfold Ex
 cases b:V.underlying x with
 | none=>grind
 | some d =>
  rw[b]at a;have f:d.isRow=false:=Ze a;have h:(isAgg x).run V w=.ok false w:=by
   unfold isAgg;simp only[bH,gQ b,aN];cases d<;>first|rfl|cases f
  simp only[c,e,Instr.loadAt,il,loadVar,bH,eh,aN,h]
  simp_all
theorem ZW{a:ie}{w:Wd}(b:r.op=.binOp a x z A y)(e:(aG x 3||Nat.beq x 45)=true)(c:R.eval z=Y U o)(d:R.eval A=Y U p)(h:Im a o p=J k) :
  (Ex R.eval r).run V w=.ok (.value k) w/\qm V (λ_=>false) [] false (.binOp a x z A y)=true:=by
 obtain rfl|rfl:x=3\/x=45:=by
  simp_all
 all_goals
  unfold Ex;simp only[b,c,d];unfold Im at h;split at h<;>first|(cases Ze h;exact⟨by go_simp,by kernel_rfl⟩)|cases h
theorem XV{a:ie}{w:Wd}(b:r.op=.binOp a x z A y)(c:aG x 4=true)(d:R.eval z=Bo t)(e:R.eval A=Bo u)(h:Gy a t u=J k) :
  (Ex R.eval r).run V w=.ok (.value k) w/\qm V (λ_=>false) [] false (.binOp a x z A y)=true:=by
 cases Zl c;unfold Ex;simp only[b,d,e];unfold Gy at h;split at h<;>first|(cases Ze h;exact⟨by go_simp<;>cases t<;>cases u<;>rfl,by kernel_rfl⟩)|cases h
theorem Ad{x:Option Sv}{s:Sv}(h:wO x=J (.val s)):x=J s:=by
 cases x with
 | none=>cases h
 | some y =>
  injection h with h
  grind
variable{a:cZ}{A:aS->Option Sv}
theorem NI(c:∀x s,A x=J s->a.eval x=s.den ρ/\s.ok ρ.length):∀ {b:List (Nat×aS)} {l:List (Nat×Sv)},Cl A b=J l->b.map (λp=>(p.1,a.eval p.2))=l.map (λp=>(p.1,p.2.den ρ))/\∀p∈l,p.2.ok ρ.length
 | [],l,h=>by cases Ze h;grind
 | (k,x)::r,l,h=>by
  unfold Cl at h;split at h
  .next s e =>
   split at h
   .next f d =>
    cases Ze h;let⟨i,j⟩:=NI c d
    grind
   .cases h
  .cases h
theorem PL(k:∀x s,A x=J s->a.eval x=s.den ρ/\s.ok ρ.length)(hm:yJ ρ m w){s:Sv}(h:qw m A r.op=J (.val s)):((Ex a.eval r).run V w=.ok (.value (s.den ρ)) w/\qm V (λ_=>false) [] false r.op=true)/\s.ok ρ.length:=by
 generalize E:r.op=op at h
 cases op with
 | move x =>
  have o:=k _ _ (Ad h);exact⟨⟨X6 E o.1,Z⟩,o.2⟩
 | assign x =>
  have o:=k _ _ (Ad h);exact⟨⟨zN E o.1,Z⟩,o.2⟩
 | pick c x y =>
  unfold qw at h;simp only at h;split at h
  .next D =>
   have j:=(k _ _ D).1;have o:=k _ _ (Ad h);refine⟨⟨?_,Z⟩,o.2⟩;unfold Ex;simp only[E,j,o.1,Sv.den,nI.den];go_simp
  .next D =>
   have j:=(k _ _ D).1;have o:=k _ _ (Ad h);refine⟨⟨?_,Z⟩,o.2⟩;unfold Ex;simp only[E,j,o.1,Sv.den,nI.den];go_simp
  .cases h
 | unOp u t x =>
  unfold qw at h
  cases u with
  | not =>
   simp only at h;split at h
   .next b D =>
    have j:=(k _ _ D).1;injection h with h
    injection h with h
    subst h;refine⟨⟨?_,Z⟩,mX⟩;unfold Ex;simp only[E,j,Sv.den,nI.den];go_simp
   .cases h
  | _=>cases h
 | extract x n =>
  unfold qw at h;simp only at h;split at h
  .next l D =>
   let⟨j,L⟩:=k _ _ D;let⟨T,R⟩:=Ip (ρ:=ρ) (Ad h);exact⟨⟨Iw E j (by simpa using R),Z⟩,T _ L⟩
  .cases h
 | nilCheck x =>
  unfold qw at h;simp only at h;split at h
  .next i P D =>
   let⟨j,L⟩:=k _ _ D;injection h with h
   injection h with h
   subst h;refine⟨⟨?_,Z⟩,L⟩;unfold Ex;simp only[E,j,Sv.den,nI.den];rfl
  .next p D =>
   let⟨j,L⟩:=k _ _ D;injection h with h
   injection h with h
   subst h;refine⟨⟨?_,Z⟩,L⟩;unfold Ex;simp only[E,j,Sv.den,nI.den];rfl
  .cases h
 | fieldAddr t x f =>
  unfold qw at h;simp only at h;split at h
  .next i P D =>
   let⟨j,L⟩:=k _ _ D;split at h
   .next d n W =>
    injection h with h
    injection h with h
    subst h;refine⟨⟨?_,Z⟩,L⟩;have:=MG (t,f,d,n) (IL W) (nJ ρ i).1 ((nJ ρ i).2+P) w;unfold Ex;simp only[E,j,Sv.den,nI.den,bH,this,aN]
    simp_all
   .cases h
  .next b P D =>
   let⟨j,L⟩:=k _ _ D;split at h
   .next d n W =>
    injection h with h
    injection h with h
    subst h;refine⟨⟨?_,Z⟩,L⟩;have:=MG (t,f,d,n) (IL W) b P w;unfold Ex;simp only[E,j,Sv.den,nI.den,bH,this,aN];rfl
   .cases h
  .cases h
 | load t x =>
  unfold qw at h;simp only at h;split at h
  .next i P D =>
   let⟨j,L⟩:=k _ _ D;split at h
   .next z N =>
    let⟨t1,t2,S⟩:=X3 N;split at h
    .next c G =>
     injection h with h
     injection h with h
     subst h;let⟨T,R,M⟩:=hm _ (xV G);exact⟨⟨JH E j S M,Z⟩,R⟩
    .cases h
   .next z N =>
    let⟨t1,t2,S⟩:=X3 N;split at h
    .next l X =>
     injection h with h
     injection h with h
     subst h;let⟨T,R,M⟩:=ET hm X;refine⟨⟨?_,Z⟩,R⟩
     cases hd:V.underlying t with
     | none=>grind
     | some d =>
      rw[hd]at S;have:=run_loadAt_mid (P:=V) w (nJ ρ i).1 ((nJ ρ i).2+P) t (l.map (·.den ρ)) d M hd (Ze S) (by grind);unfold Ex;simp only[E,j,Sv.den,nI.den,bH,this,aN];rfl
    .cases h
   .cases h
  .cases h
 | store t x y =>
  unfold qw at h;simp only at h
  repeat(split at h<;>first|cases h|skip)
 | alloc t =>
  unfold qw at h;simp only at h
  repeat' split at h
  all_goals cases h
 | box t x =>
  unfold qw at h;simp only at h
  repeat' split at h
  all_goals cases h
 | build t ps =>
  unfold qw at h;simp only at h;split at h
  .next z N =>
   split at h
   .next l X =>
    split at h
    .next c G =>
     split at h
     .next D =>
      injection h with h
      injection h with h
      subst h;let⟨p1,p2⟩:=NI k X;let⟨f1,f2⟩:=Ks (ρ:=ρ) G;refine⟨⟨?_,Z⟩,f1 _ (λx o=>by obtain⟨y,_,rfl⟩:=dA.1 o;trivial) p2⟩;have j:(z.map nI.v).map (·.den ρ)=z:=by rw[lW];exact kZ _
      rw[j]at f2;have:=Wk t (Hd D) z N (ps.map λp=>(p.1,a.eval p.2)) _ w (by rw[gE,p1];exact f2);unfold Ex;simp only[E,Sv.den,bH];have L:(im t (ps.map λ(x:Nat×aS)=>(x.1,a.eval x.2))).run V w=_:=this;simp only[L,aN];rfl
     .cases h
    .cases h
   .cases h
  .cases h
 | binOp op t x y u =>
  unfold qw at h;simp only at h;split at h
  .next p q o hy =>
   split at h
   .next N =>
    split at h
    .next v hv =>
     injection h with h
     injection h with h
     subst h;exact⟨ZW E N (k _ _ o).1 (k _ _ hy).1 hv,mX⟩
    .cases h
   .cases h
  .next p q o hy =>
   split at h
   .next N =>
    split at h
    .next v hv =>
     injection h with h
     injection h with h
     subst h;exact⟨XV E N (k _ _ o).1 (k _ _ hy).1 hv,mX⟩
    .cases h
   .cases h
  .cases h
 | call c =>
  let⟨g',e',f'⟩:=c;unfold qw at h;simp only at h;split at h
  .next x t ha hs =>
   split at h
   .next ad n cp o N =>
    injection h with h
    injection h with h
    subst h;let⟨e,hu⟩:=Sr t (Hd N);have ea:e'=#[x]:=by grind
    have es:f'=#[t]:=by grind
    subst ea es;exact⟨⟨c8G E hu (k _ _ o).1,Z⟩,mX⟩
   .cases h
  .cases h
 | _=>cases h
def so(b:Wd)(W:List Nat)(p:cx)(v:Vu):Prop:=p.block<b.heap.size/\p.block∉W/\b.cell? p=J v
def vA(c:Wd)(W:List Nat)(b o:Nat)(l:List Vu):Prop:=b<c.heap.size/\b∉W/\c.rangeAt b o l
def Ct:List (Nat×Nat):=[(139,1),(111,1),(103,1),(135,2),(115,8),(116,1),(112,1),(88,5),(66,6),(72,20),(38,1),(39,1),(24,10),(83,5),(50,2),(51,2),(52,2),(53,2)]
def Bs(t:Nat):List (Nat×Nat)->Option Nat
 | []=>Q
 | (t',z)::r=>match aG t t' with
  | true=>J z
  | false=>Bs t r
theorem Gc:∀ {l:List (Nat×Nat)},Bs b l=J c->(b,c)∈l
 | (t',z')::r,h=>by
  unfold Bs at h;split at h
  .simp_all
  .exact ah _ (Gc h)
def GM(t z:Nat):Prop:=∃e,V.underlying t=J (.slice e)/\(V.info? e).map (·.size)=J z
theorem Oz:∀p∈Ct,GM p.1 p.2:=by
 unfold Ct
 repeat(refine ib.2 ⟨⟨_,Z,by kernel_rfl⟩,?_⟩)
 exact λ_ h=>nomatch h
theorem Gf(h:(V.info? b).map (·.size)=J c)(w:Wd):(sizeOf b).run V w=.ok c w:=by
 cases d:V.info? b with
 | none=>grind
 | some i =>
  rw[d]at h;have:i.size=c:=Ze h;simp[sizeOf,typeInfo,d,this]
theorem c0U(h:GM d e){b o n c:Nat}{k:iB}(f:0<=p)(i:p<n)(w:Wd):(fV d (Sc (J (O b o Q)) n c) (.int k p)).run V w=.ok (Po (J (O b (o+p.toNat*e) Q))) w:=by
 let⟨t,j,q⟩:=h;have r:=Gf q w;simp[fV,gQ j,asIntOf,f,i,r,kE]
def yD(t n z:Nat):Prop:=∃e,V.underlying t=J (.array n e)/\(V.info? e).map (·.size)=J z
theorem Xz:yD 25 3 1:=⟨3,by kernel_rfl,by kernel_rfl⟩
theorem KE:yD 77 4 2:=⟨76,by kernel_rfl,by kernel_rfl⟩
theorem OM:yD 80 4 2:=⟨79,by kernel_rfl,by kernel_rfl⟩
theorem IJ{n:Nat}(h:yD c n d){b o:Nat}{k:iB}(f:0<=p)(i:p<n)(w:Wd):(fV c (Po (J (O b o Q))) (.int k p)).run V w=.ok (Po (J (O b (o+p.toNat*d) Q))) w:=by
 let⟨e,j,q⟩:=h;have r:=Gf q w;simp[fV,il,gQ j,asIntOf,f,i,r,kE]
theorem c2w(h:GM d e){b o n c:Nat}{k:iB}(f:0<=p)(i:p<=n)(w:Wd):(iC d (Sc (J (O b o Q)) n c) (J (.int k p)) Q Q).run V w=.ok (.slice (if c=p.toNat then J (O b o Q) else J (O b (o+p.toNat*e) Q)) (n - p.toNat) (c - p.toNat)) w:=by
 let⟨u,j,t⟩:=h;have q:=Gf t w
 by_cases r:c=p.toNat
 .simp[iC,lX,jg,jv,gQ j,asIntOf,f,i,q,r]
 .simp[iC,lX,jg,jv,gQ j,asIntOf,f,i,q,r,kE]
theorem Dz{o:aL}{a:cZ}{z:List Vu}(j:o.op=.alloc b)(h:GL b t z)(d:t=false->(z.headD Ud).cells=z.toArray)(w:Wd)(f:Array dn) :
  (Ex a.eval o).runT V w f=(.ok (.value (Po (J (O w.heap.size 0 Q)))) (w.alloc (.cells z.toArray b (0,0))),f):=by
 let⟨k,c,_⟩:=h
 cases e:V.info? b with
 | none=>grind
 | some i =>
  rw[e]at c;have c:i.zero=J _:=c;unfold Ex;simp only[j,Instr.alloc,zeroValue,typeInfo]
  cases t with
  | true =>
   simp[aM,e,c,newVar,newRow,newObj,fY];exact⟨Z,Z⟩
  | false =>
   have d:=d Z;rw[List.headD_eq_head?_getD]at d;simp[aM,e,c,newVar,newRow,newObj,d];exact⟨Z,Z⟩
theorem WR{a:cZ}(d:r.op=.box b z)(e:a.eval z=k)(w:Wd)(c:Array dn):(Ex a.eval r).runT V w c=(.ok (.value (Po (J (O w.heap.size 0 Q)))) (w.alloc (.cells k.cells b (0,0))),c):=by
 unfold Ex;simp only[d,e,Instr.box];simp[aM,newVar,newRow,newObj];exact⟨Z,Z⟩
theorem YI{z:List Vu}(h:II z=true):(z.headD Ud).cells=z.toArray:=by
 unfold II at h;split at h<;>first|rfl|cases h
theorem Vn{a:cZ}{y:aS}{e:List Vu}{w:Wd}(q:r.op=.store b z y)(t:a.eval z=Po (J (O c d Q)))(u:a.eval y=k)(x:k.cells=e.toArray)(h:w.there c d e.length)(o:(V.info? b).map (·.size)=J e.length)(D:∀v∈e,v.oneCell'=true) :
  (Ex a.eval r).run V w=.ok .skip (w.setCells c d e):=by
 have:=jL (P:=V) c d e 0 w (λj f=>by simpa using(h j f).1) (λj f=>by simpa using(h j f).2) D;simp only[jZ]at this
 cases p:V.info? b with
 | none=>grind
 | some i =>
  rw[p]at o;have E:i.size=e.length:=Ze o;unfold Ex;simp only[q,t,u,Instr.storeAt,il,bH,eh,aN];simp[storeVar,sizeOf,typeInfo,p,x,E,this]
def tC:l9->Nat->Option Sv
 | [],_=>Q
 | (u,s)::r,t=>match aG t u with
  | true=>J s
  | false=>tC r t
def pJ(b:l9):aS->Option Sv
 | .tmp t=>tC b t
 | .const c=>J (.c (.v c))
 | _=>Q
def CB(D:Nat):l9->Bool
 | []=>true
 | p::r=>!(aG p.1 D)&&CB D r
def tz(D:Nat):l9->l9->Option l9
 | [],acc=>J acc
 | (t,v)::r,acc=>match aG t D with
  | true=>tz D r acc
  | false=>tz D r ((t,v)::acc)
def qA(D:Nat)(v:Sv)(b:l9):Option l9:=match CB D b with
 | true=>J ((D,v)::b)
 | false=>match tz D b [] with
  | some e=>J ((D,v)::e)
  | none=>Q
theorem wH{s:Sv}:∀ {c:l9},tC c b=J s->(b,s)∈c
 | (u,x)::r,h=>by
  unfold tC at h;split at h
  .simp_all
  .exact ah _ (wH h)
theorem JP:∀ {c:l9},CB b c=true->∀p∈c,p.1≠b
 | p::r,h,q,hq=>by
  simp only[CB,aB,Bool.not_eq_true']at h;rcases ae.1 hq with rfl|hq
  .exact λe=>by simp_all
  .exact JP h.2 q hq
theorem BH:∀ {f c d:l9},tz b f c=J d->∀p∈d,(p∈f/\p.1≠b)\/p∈c
 | [],c,d,h,p,hp=>by
  cases Ze h;exact .inr hp
 | (t,v)::r,c,d,h,p,hp=>by
  unfold tz at h;split at h
  .rcases BH h p hp with h|h
   .exact .inl ⟨ah _ h.1,h.2⟩
   .exact .inr h
  .next i =>
   rcases BH h p hp with h|h
   .exact .inl ⟨ah _ h.1,h.2⟩
   .rcases ae.1 h with rfl|h
    .exact .inl ⟨ao ..,λe=>by simp_all⟩
    .exact .inr h
theorem BQ{v:Sv}{d f:l9}(h:qA b v d=J f):∀p∈f,p=(b,v)\/(p∈d/\p.1≠b):=by
 unfold qA at h;split at h
 .next i =>
  cases Ze h;intro p c;rcases ae.1 c with rfl|c
  .exact .inl Z
  .exact .inr ⟨c,JP i p c⟩
 .split at h
  .next e j =>
   cases Ze h;intro p c;rcases ae.1 c with rfl|c
   .exact .inl Z
   .exact .inr ((BH j p c).resolve_right Zc)
  .cases h
theorem HG:∀ {m d f:Mem},BS b c m d=J f->∀e∈f,(e∈m/\¬(e.1=b/\e.2.1=c))\/e∈d
 | [],d,f,h,p,hp=>by
  cases Ze h;exact .inr hp
 | (i',o',x)::r,d,f,h,p,hp=>by
  unfold BS at h;split at h
  .rcases HG h p hp with h|h
   .exact .inl ⟨ah _ h.1,h.2⟩
   .exact .inr h
  .next i =>
   rcases HG h p hp with h|h
   .exact .inl ⟨ah _ h.1,h.2⟩
   .rcases ae.1 h with rfl|h
    .refine .inl ⟨ao ..,λe=>?_⟩
     simp_all
    .exact .inr h
theorem Fe:∀ {l:List nI} {o:Nat} {m i:Mem},zo b o l m=J i->(∀j,j<l.length->∃c,(b,o+j,c)∈m)/\∀e∈i,(e.1=b/\∃j,e.2.1=o+j/\l[j]?=J e.2.2)\/(e∈m/\¬(e.1=b/\o<=e.2.1/\e.2.1<o+l.length))
 | [],o,m,i,h=>by
  cases Ze h
  grind
 | c::l,o,m,i,h=>by
  unfold zo at h;split at h
  .next E f =>
   unfold stM at f;split at f
   .next p q =>
    split at f
    .next L r =>
     cases Ze f;have d:=HG r;let⟨t,u⟩:=Fe h;refine⟨λj v=>?_,λe y=>?_⟩
     .cases j with
      | zero=>exact⟨p,xV q⟩
      | succ j =>
       let⟨x,N⟩:=t j (by simpa using v)
       grind
     .rcases u e y with⟨k,j,z,D⟩|⟨k,z⟩
      .exact .inl ⟨k,j+1,by omega,D⟩
      .rcases ae.1 k with rfl|k
       all_goals grind
    .cases f
   .cases f
  .cases h
variable{B:Nat->Nat}{W:List Nat}{H:Nat}{F:Wd}{sz:Nat}{env:l9}
theorem fx.rd(M:fx B W H F ρ m sz env a w){x:aS}{s:Sv}(h:pJ env x=J s):a.eval x=s.den ρ/\s.ok ρ.length:=by
 unfold pJ at h;split at h
 .next t =>
  have b:=wH h;refine⟨?_,M.wf _ b⟩;have:=M.lv.has _ (s7.2 ⟨s,b,Z⟩);show a.tmps.getD t Ud=_
  simp_all
 .cases Ze h;exact⟨Z,mX⟩
 .cases h
theorem fx.put(M:fx B W H F ρ m sz env a w)(j:b<sz){s:Sv}(k:s.ok ρ.length){f:l9}(h:qA b s env=J f):fx B W H F ρ m sz f (a.put (J b) (s.den ρ)) w:=by
 have i:=BQ h;refine⟨⟨by simp[dG,M.lv.size],M.lv.defers,λp c=>?_⟩,M.ce,λp c=>?_,M.bl,M.ij,M.own,M.size,M.old,M.fit,M.new⟩
 .let⟨t,v⟩:=p;obtain⟨o,q,rfl⟩:=s7.1 c;rcases i _ q with e|⟨d,r⟩
  .injection e with u x
   subst u x;simp[dG,M.lv.size,j]
  .simp only[dG];rw[cV (aA r)];exact M.lv.has _ (s7.2 ⟨o,d,Z⟩)
 .rcases i _ c with rfl|⟨d,_⟩
  .exact k
  .exact M.wf _ d
theorem fx.store(M:fx B W H F ρ m sz env a w){l:List nI}{p:Mem}(v:H<=b)(d:b<ρ.length)(h:zo b c l m=J p)(a':∀x∈l,x.ok ρ.length)(y:f.heap.size=w.heap.size)(i:∀k,k≠(nJ ρ b).1->f.heap[k]?=w.heap[k]?)(z:∃D t,f.heap[(nJ ρ b).1]?=J (.cells D t (0,0)))(h1:∀j x,l[j]?=J x->f.cell? (O ((nJ ρ b).1) ((nJ ρ b).2+(c+j)) Q)=J (x.den ρ))(h2:∀q,q<(nJ ρ b).2+c\/(nJ ρ b).2+c+l.length<=q->f.cell? (O ((nJ ρ b).1) q Q)=w.cell? (O ((nJ ρ b).1) q Q))(E:Fit B f):fx B W H F ρ p sz env a f:=by
 let⟨g1,L⟩:=Fe h;refine⟨M.lv,λe N=>?_,M.wf,λj o=>⟨?_,(M.bl j o).2⟩,M.ij,M.own,by rw[y];exact M.size,λk P R=>?_,E,M.new⟩
 .rcases L e N with⟨r,j,S,e3⟩|⟨r,S⟩
  .grind
  .let⟨u,T,G⟩:=M.ce e r;refine⟨u,T,?_⟩
   by_cases X:e.1=b
   .grind
   .rw[←G];exact Zf (w:=w) (i _ (M.ij _ _ u d X))
 .by_cases e:j=b
  .subst e;exact z
  .rw[i _ (M.ij _ _ o d e)];exact(M.bl j o).1
 .rw[i k λe=>?_]
  .exact M.old k P R
  .rcases M.own b v d with q|q
   all_goals grind
abbrev pB:=List (List Vu)
abbrev An:Option Prop->Prop
 | none=>True
 | some c=>c
def Bv(C:Prop):Option Prop->Prop
 | none=>C
 | some c=>C/\c
theorem zA{C:Prop}{c:Option Prop}(h:Bv C c):C/\An c:=by
 cases c with
 | none=>exact⟨h,mX⟩
 | some c=>exact h
def UT:Op->Bool
 | .binOp ..=>true
 | _=>false
def IM:Ef->pB->Option (Bool×pB×Bool)
 | .val (.c (.v (Bo z))),[Bo b,Bo _]::r=>J (b,r,z)
 | _,_=>Q
theorem c7w{b r:pB}{e:Ef}(h:IM e b=J (t,r,u)):e=.val (.c (.v (Bo u))):=by
 unfold IM at h;split at h
 .grind
 .cases h
def zc(F:Wd)(W:List Nat)(m:Mem)(A:aS->Option Sv)(d:pB)(f:Op):Option (Ef×pB×Option Prop):=match qw m A f with
 | some e=>match UT f with
  | true=>match IM e d with
   | some (b,r,z)=>J (.val (.c (.v (Bo b))),r,J (z=b))
   | none=>J (e,d,Q)
  | false=>J (e,d,Q)
 | none=>match f with
  | .indexAddr t x ix=>match A x,A ix with
   | some (.c (.v (.slice (some ⟨b,o,none⟩) n _))),some (.c (.v (.int _ j)))=>match Bs t Ct with
    | some z=>J (.val (.c (.v (Po (J (O b (o+j.toNat*z) Q))))),d,J (0<=j/\j<n))
    | none=>Q
   | some (.c (.p i o)),J (.c (.v (.int _ j)))=>match aG t 25 with
    | true=>J (.val (.c (.p i (o+j.toNat*1))),d,J (0<=j/\j<(3:Nat)))
    | false=>match aG t 77||Nat.beq t 80 with
     | true=>J (.val (.c (.p i (o+j.toNat*2))),d,J (0<=j/\j<(4:Nat)))
     | false=>Q
   | some (.c (.v (Po (J (O b o Q))))),J (.c (.v (.int _ j)))=>match aG t 77||Nat.beq t 80 with
    | true=>J (.val (.c (.v (Po (J (O b (o+j.toNat*2) Q))))),d,J (0<=j/\j<(4:Nat)))
    | false=>Q
   | _,_=>Q
  | .load t x=>match A x,d with
   | some (.c (.v (.pointer (some ⟨b,o,none⟩)))),l::r=>match sL t sU with
    | some (false,_)=>match l with
     | [v]=>J (.val (.c (.v v)),r,J (so F W (O b o Q) v))
     | _=>Q
    | some (true,z)=>match aG l.length z.length with
     | true=>J (.val (.g (l.map .v)),r,J (vA F W b o l))
     | false=>Q
    | none=>Q
   | _,_=>Q
  | .slice t x (J lo) Q Q=>match A x,A lo with
   | some (.c (.v (.slice (some ⟨b,o,none⟩) n c))),some (.c (.v (.int _ j)))=>match Bs t Ct with
    | some z=>J (.val (.c (.v (.slice (if c=j.toNat then J (O b o Q) else J (O b (o+j.toNat*z) Q)) (n - j.toNat) (c - j.toNat)))),d,J (0<=j/\j<=n))
    | none=>Q
   | _,_=>Q
  | _=>Q
theorem EM{F:Wd}{W:List Nat}{m:Mem}{A:aS->Option Sv}{c d:pB}{b:Op}{e:Ef}{C:Option Prop}(h:zc F W m A c b=J (e,d,C)):qw m A b=J e\/∃s,e=.val s:=by
 unfold zc at h;split at h
 .repeat' split at h
  all_goals grind
 .right
  repeat' split at h
  all_goals grind
theorem FT{F w:Wd}{W:List Nat}{ρ:ou}{m:Mem}{a:cZ}{A:aS->Option Sv}{M X:pB}{s:Sv}{C:Option Prop}(D:∀x s,A x=J s->a.eval x=s.den ρ/\s.ok ρ.length)(hm:yJ ρ m w)(b':∀k,k<F.heap.size->k∉W->w.heap[k]?=F.heap[k]?)(h:zc F W m A M r.op=J (.val s,X,C))(o:An C) :
  ((Ex a.eval r).run V w=.ok (.value (s.den ρ)) w/\qm V (λ_=>false) [] false r.op=true)/\s.ok ρ.length:=by
 unfold zc at h;split at h
 .next e T =>
  have no:J (e,M,Q)=J (Ef.val s,X,C)->_:=λh=>by
   obtain⟨rfl,_⟩:=ax (Ze h);exact PL D hm T
  split at h
  .split at h
   .next b a' z S =>
    let⟨f,q⟩:=ax (Ze h);obtain⟨_,rfl⟩:=ax q;injection f with f
    subst f;have o:z=b:=o;subst o;rw[c7w S]at T;exact PL D hm T
   .exact no h
  .exact no h
 generalize R:r.op=op at h
 cases op with
 | indexAddr t x ix =>
  simp only at h;split at h
  .next b u n c k j E P =>
   let⟨L,_⟩:=D _ _ E;let⟨N,_⟩:=D _ _ P;split at h
   .next z S =>
    let⟨f,q⟩:=ax (Ze h);obtain⟨_,rfl⟩:=ax q;injection f with f
    subst f;refine⟨⟨?_,Z⟩,mX⟩;have:=c0U (Oz (t,z) (Gc S)) (b:=b) (o:=u) (c:=c) (k:=k) o.1 o.2 w;unfold Ex;simp only[R,L,N,Sv.den,nI.den,bH,this,aN];rfl
   .cases h
  .next i u k j E P =>
   let⟨L,c'⟩:=D _ _ E;let⟨N,_⟩:=D _ _ P;split at h
   .next p =>
    cases Zl p;let⟨f,q⟩:=ax (Ze h);obtain⟨_,rfl⟩:=ax q;injection f with f
    subst f;refine⟨⟨?_,Z⟩,c'⟩;have:=IJ Xz (b:=(nJ ρ i).1) (o:=(nJ ρ i).2+u) (k:=k) o.1 o.2 w;unfold Ex;simp only[R,L,N,Sv.den,nI.den,bH,this,aN]
    simp_all
   .split at h
    .next p =>
     have G:yD t 4 2:=by
      simp only[cY]at p;rcases p with p|p
      .rw[Zl p];exact KE
      .rw[Zl p];exact OM
     let⟨f,q⟩:=ax (Ze h);obtain⟨_,rfl⟩:=ax q;injection f with f
     subst f;refine⟨⟨?_,Z⟩,c'⟩;have:=IJ G (b:=(nJ ρ i).1) (o:=(nJ ρ i).2+u) (k:=k) o.1 o.2 w;unfold Ex;simp only[R,L,N,Sv.den,nI.den,bH,this,aN]
     simp_all
    .cases h
  .next b u k j E P =>
   let⟨L,_⟩:=D _ _ E;let⟨N,_⟩:=D _ _ P;split at h
   .next p =>
    have G:yD t 4 2:=by
     simp only[cY]at p;rcases p with p|p
     .rw[Zl p];exact KE
     .rw[Zl p];exact OM
    let⟨f,q⟩:=ax (Ze h);obtain⟨_,rfl⟩:=ax q;injection f with f
    subst f;refine⟨⟨?_,Z⟩,mX⟩;have:=IJ G (b:=b) (o:=u) (k:=k) o.1 o.2 w;unfold Ex;simp only[R,L,N,Sv.den,nI.den,bH,this,aN];rfl
   .cases h
  .cases h
 | load t x =>
  simp only at h;split at h
  .next b u l a' E =>
   let⟨L,_⟩:=D _ _ E;split at h
   .next z p =>
    split at h
    .next v =>
     let⟨f,q⟩:=ax (Ze h);obtain⟨_,rfl⟩:=ax q;injection f with f
     subst f;exact⟨⟨JH R L (X3 p).2.2 ((Zf (w:=F) (b' _ o.1 o.2.1)).trans o.2.2),Z⟩,mX⟩
    .cases h
   .next z p =>
    split at h
    .next hl =>
     let⟨f,q⟩:=ax (Ze h);obtain⟨_,rfl⟩:=ax q;injection f with f
     subst f;let⟨t1,t2,t3⟩:=X3 p;refine⟨⟨?_,Z⟩,λx E=>by obtain⟨y,_,rfl⟩:=dA.1 E;trivial⟩
     cases hd:V.underlying t with
     | none=>grind
     | some d =>
      rw[hd]at t3;have:=run_loadAt_mid (P:=V) w b u t l d (λj v hv=>(Zf (w:=F) (a:=(O b (u+j) Q)) (b' _ o.1 o.2.1)).trans (o.2.2 j v hv)) hd (Ze t3) (by simp_all);have e3:(l.map nI.v).map (·.den ρ)=l:=by rw[lW];exact kZ _
      have e4:(Sv.g (l.map nI.v)).den ρ=.agg l.toArray:=by simp only[Sv.den,e3]
      rw[e4];have e5:a.eval x=Po (J (O b u Q)):=L;unfold Ex
      simp_all
    .cases h
   .cases h
  .cases h
 | slice t x lo P mx =>
  cases lo with
  | none=>cases h
  | some lo =>
  cases P with
  | some _=>cases h
  | none =>
  cases mx with
  | some _=>cases h
  | none =>
  simp only at h;split at h
  .next b u n c k j E hl =>
   let⟨L,_⟩:=D _ _ E;let⟨N,_⟩:=D _ _ hl;split at h
   .next z S =>
    let⟨f,q⟩:=ax (Ze h);obtain⟨_,rfl⟩:=ax q;injection f with f
    subst f;refine⟨⟨?_,Z⟩,mX⟩;have:=c2w (Oz (t,z) (Gc S)) (b:=b) (o:=u) (c:=c) (k:=k) o.1 o.2 w;unfold Ex;simp only[R,L,N,aD,Option.map_none,Sv.den,nI.den,bH,this,aN];rfl
   .cases h
  .cases h
 | _=>grind
def yc(n:Nat):Nat->List nI->Mem->Mem
 | _,[],m=>m
 | j,v::r,m=>(n,j,v)::yc n (j+1) r m
theorem I8{n:Nat}:∀ {z:List nI} {j:Nat} {m:Mem} {e:Nat×Nat×nI},e∈yc n j z m->e∈m\/∃i v,z[i]?=J v/\e=(n,j+i,v)
 | [],j,m,e,h=>.inl h
 | v::r,j,m,e,h=>by
  rcases ae.1 h with rfl|h
  .simp_all
  .rcases I8 h with h|⟨i,x,b,rfl⟩
   .exact .inl h
   .exact .inr ⟨i+1,x,b,by grind⟩
theorem Q6(M:fx B W H F ρ m sz env a w){i:Nat}(h:i<ρ.length):(nJ ρ i).1<w.heap.size:=by
 let⟨⟨c,t,b⟩,_⟩:=M.bl i h
 grind
theorem fx.alloc(M:fx B W H F ρ m sz env a w)(l:List nI)(P:∀x∈l,x.ok ρ.length)(t:Nat):fx B W H F (ρ++[(w.heap.size,0)]) (yc ρ.length 0 l m) sz env a (w.alloc (.cells (l.map (·.den ρ)).toArray t (0,0))):=by
 generalize hz:l.map (·.den ρ)=z;have r:∀k,k<w.heap.size->(w.alloc (.cells z.toArray t (0,0))).heap[k]?=w.heap[k]?:=λk d=>aJ w _ k d;have D:=cC w (.cells z.toArray t (0,0));have b':(w.alloc (.cells z.toArray t (0,0))).heap.size=w.heap.size+1:=by simp
 have u:(ρ++[(w.heap.size,0)]).length=ρ.length+1:=by simp
 have f:∀i,i<ρ.length+1->i<ρ.length\/i=ρ.length:=λi h=>by omega
 refine⟨by rw[PN _ M.wf];exact M.lv,λe y=>?_,λp R=>Sv.oR Za (M.wf p R),λi b=>?_,λi j b o S=>?_,λi T b=>?_,by have:=M.size;omega,λk E G=>?_,⟨λj o=>?_,mX⟩,M.new⟩
 .rcases I8 y with y|⟨j,v,X,rfl⟩
  .let⟨L,N,c3⟩:=M.ce e y;rw[R9 _ _ _ L,nI.oc _ N];exact⟨by omega,nI.oR Za N,(Zf (w:=w) (r _ (Q6 M L))).trans c3⟩
  .have d:=P v (cN X);refine⟨by simp,nI.oR Zc d,?_⟩;show aC _ (O ((nJ _ ρ.length).1) ((nJ _ ρ.length).2+(0+j)) Q)=_;rw[ti,aE,aE,nI.oc _ d];simp only[aC,D]
   grind
 .rw[u]at b;rcases f i b with h|rfl
  .rw[R9 _ _ _ h,r _ (Q6 M h)];exact M.bl i h
  .rw[ti];exact⟨⟨_,_,D⟩,M.new _ M.size⟩
 .rw[u]at b o;rcases f i b with h|rfl<;>rcases f j o with q|rfl
  .rw[R9 _ _ _ h,R9 _ _ _ q];exact M.ij i j h q S
  .rw[R9 _ _ _ h,ti];exact dt (Q6 M h)
  .rw[R9 _ _ _ q,ti];exact Nat.ne_of_gt (Q6 M q)
  grind
 .rw[u]at b;rcases f i b with h|rfl
  .rw[R9 _ _ _ h];exact M.own i T h
  .rw[ti];exact .inr M.size
 .rw[r k (Zg E M.size)];exact M.old k E G
 .let⟨c,t,hc⟩:=M.fit.soft j o
  grind
structure Sm where
 m:Mem
 env:l9
 n:Nat
 qu:pB
 cond:Prop
def Dg(b:Array aL)(env:l9)(o:aL):Option Bool:=match o.guard with
 | none=>J true
 | some (j,y)=>match b[j]? with
  | some c=>match c.dst with
   | some t=>match tC env t with
    | some (.c (.v (.bool x)))=>J (x==y)
    | _=>Q
   | none=>Q
  | none=>Q
def wY:Sm->Nat->Nat->Sv->Option Sm
 | ⟨m,env,n,qu,C⟩,sz,D,v=>match cE D sz with
  | true=>match qA D v env with
   | some e=>J ⟨m,e,n,qu,C⟩
   | none=>Q
  | false=>Q
def BB(F:Wd)(W:List Nat)(H:Nat)(b:Array aL)(sz i:Nat):Sm->Option Sm
 | ⟨m,env,n,qu,cond⟩=>match b[i]? with
 | some o=>match Dg b env o with
  | some true=>match zc F W m (pJ env) qu o.op with
   | some (.val v,orc',C)=>match o.dst with
    | some D=>wY ⟨m,env,n,orc',Bv cond C⟩ sz D v
    | none=>Q
   | some (.st j off l,_,_)=>match o.dst,o.guard with
    | none,none=>match fS H j&&cE j n with
     | true=>match zo j off l m with
      | some c=>J ⟨c,env,n,qu,cond⟩
      | none=>Q
     | false=>Q
    | _,_=>Q
   | some (.new t z,_,_)=>match o.dst,o.guard with
    | some D,none=>wY ⟨yc n 0 z m,env,n+1,qu,cond⟩ sz D (.c (.p n 0))
    | _,_=>Q
   | none=>Q
  | some false=>match o.dst with
   | some D=>wY ⟨m,env,n,qu,cond⟩ sz D (.c (.v Ud))
   | none=>Q
  | none=>Q
 | none=>Q
theorem ER{a:cZ}{d:aL}(e:r.guard=J (b,u))(f:P[b]?=J d)(h:d.dst=J c)(i:a.tmps[c]?=J (Bo t)):bM r (fh P a.tmps)=(t==u):=by
 unfold bM;rw[e];simp only[fh,f,Option.bind_some,h,i]
 grind
theorem zu{B:Nat->Nat}{w:Wd}{a:cZ}{Stop:Gr->Wd->Prop}{f:bC}{u:List bh}{T:List Fm'}{sz:Nat}{E:List (Nat×Vu)}{b p:Nat}{L:List Nat}{y:aS}{cells:List Vu}(hA:pK sz E a)(ho:P[c]?=J r)(hg:r.guard=Q)(M:r.op=.store d z y)(hd:r.dst=Q)(X:w.heap[b]?=J (.cells i x (0,0)))(a':B b=0)(e':Fit B w)(ex:a.eval z=Po (J (O b p Q)))(ey:a.eval y=k)(hc:k.cells=cells.toArray)(hi:(V.info? d).map (·.size)=J cells.length)(h1:∀v∈cells,v.oneCell'=true)(f':∀q,q<cells.length->(w.cell? (O b (p+q) Q)).isSome=true)(h:∀D,D.heap.size=w.heap.size->(∀u,u≠b->D.heap[u]?=w.heap[u]?)->(∃b',D.heap[b]?=J (.cells b' x (0,0))/\b'.size=i.size)->(∀q v,cells[q]?=J v->D.cell? (O b (p+q) Q)=J v)->(∀q,q<p\/p+cells.length<=q->D.cell? (O b q Q)=w.cell? (O b q Q))->Fit B D->iv V t true B Stop (G ((aQ f).at a (.inRegion P L::u)) T) D) :
  iv V t true B Stop (G ((aQ f).at a (.inRegion P (c::L)::u)) T) w:=by
 have c':∀e v,Lk B v (w.at e)->v.heap[b]?=J (.cells i x (0,0)):=λe v o=>by
  rw[vI (w:=w.at e) o a' (.inl ⟨_,_,_,X⟩)];exact X
 have d':∀e v,Lk B v (w.at e)->∀q,v.cell? (O b q Q)=w.cell? (O b q Q):=λe v o q=>Zf (w:=w) (by grind);refine U3 (R:=λv v'=>v'=v.setCells b p cells) hA ho hg (by show aV≠.early;decide) (by rw[M];rfl) hd e' (λe v o=>⟨_,?_,Z⟩) λe R v v' o S g' hR=>?_
 .refine Vn M ex ey hc (λq N=>?_) hi h1;rw[d' e v o];exact⟨f' q N,by simp[bR,c' e v o]⟩
 .subst hR;have h':=S.size;rw[l8]at h';have i':R.heap.size=w.heap.size:=by have:v.heap.size=w.heap.size:=o.size;omega
  obtain⟨c3,h3,z3,_⟩:(v.setCells b p cells).rowIs b x i.size _:=C4 cells p (f:=λj=>i.getD j (Bo false)) ⟨i,c' e v o,Z,λq N=>by simp_all⟩;have e3:R.heap[b]?=_:=(vI S a' (.inr ⟨_,_,_,h3⟩)).symm;have c2:∀q,R.cell? (O b q Q)=(v.setCells b p cells).cell? (O b q Q):=λq=>Zf e3;refine h R i' (λu hk=>C5 (w:=w.at e) g' o S (I3 hk _ _ _)) ⟨_,e3.trans h3,z3⟩ (λq z hx=>?_) (λq N=>?_) S.fit
  .rw[c2];have N:q<cells.length:=by
    grind
   rw[kG b cells p v (λp' hp=>by grind) q N]
   grind
  .rw[c2,dS _ _ _ _ _ (λ_ _=>by simpa using N),d' e v o]
theorem wS{B:Nat->Nat}{w:Wd}{a:cZ}{Stop:Gr->Wd->Prop}{f:bC}{j:List bh}{sz:Nat}{u:List (Nat×Vu)}{b p:Nat}{L:List Nat}{y:aS}{cells:List Vu}(D:pK sz u a)(N:P[c]?=J r)(R:r.guard=Q)(S:r.op=.store d z y)(T:r.dst=Q)(M:w.heap[b]?=J (.cells i x (0,0)))(X:B b=0)(a':Fit B w)(ex:a.eval z=Po (J (O b p Q)))(ey:a.eval y=k)(hc:k.cells=cells.toArray)(hi:(V.info? d).map (·.size)=J cells.length)(o:∀v∈cells,v.oneCell'=true)(b':∀q,q<cells.length->(w.cell? (O b (p+q) Q)).isSome=true)(h:∀e,e.heap.size=w.heap.size->(∀j,j≠b->e.heap[j]?=w.heap[j]?)->(∃c' d,e.heap[b]?=J (.cells c' d (0,0)))->(∀q v,cells[q]?=J v->e.cell? (O b (p+q) Q)=J v)->(∀q,q<p\/p+cells.length<=q->e.cell? (O b q Q)=w.cell? (O b q Q))->Fit B e->iv V t true B Stop (G ((aQ f).at a (.inRegion P L::j)) E) e) :
  iv V t true B Stop (G ((aQ f).at a (.inRegion P (c::L)::j)) E) w :=
 zu D N R S T M X a' ex ey hc hi o b' λe o h2 h3=>h e o h2 ⟨_,_,h3.choose_spec.1⟩
variable{E:Array aL}{K:Bool}{Stop:Gr->Wd->Prop}{f:bC}{k:List bh}{I:List Fm'}
section
variable{s:Sm}
theorem Gq(M:fx B W H F ρ s.m sz s.env a w)(h:Dg E s.env r=J t):bM r (fh E a.tmps)=t:=by
 unfold Dg at h;split at h
 .next b=>rw[B6 b];exact Ze h
 .next j y b =>
  split at h
  .next i c =>
   split at h
   .next o d =>
    split at h
    .next x e =>
     rw[ER b c d (M.lv.has _ (s7.2 ⟨_,wH e,Z⟩))];exact Ze h
    .cases h
   .cases h
  .cases h
theorem FP(M:fx B W H F ρ s.m sz s.env a w){v:Sv}(d:v.ok ρ.length){c:Sm}(h:wY s sz b v=J c):fx B W H F ρ c.m sz c.env (a.put (J b) (v.den ρ)) w/\c.n=s.n/\c.cond=s.cond:=by
 let⟨m,env,n,o,C⟩:=s;unfold wY at h;simp only at h;split at h
 .next i =>
  split at h
  .next e j =>
   cases Ze h;exact⟨M.put (by simpa using i) d j,Z,Z⟩
  .cases h
 .cases h
theorem fx.mem(M:fx B W H F ρ s.m sz s.env a w)(d:Nat):yJ ρ s.m (w.at d):=M.ce
theorem EJ(M:fx B W H F ρ s.m sz s.env a w)(j:s.n=ρ.length){L:List Nat}{l:List nI}{i:Sm}(y:E[b]?=J r)(z:r.guard=Q)(D:r.dst=J e)(N:∀x∈l,x.ok ρ.length)(P:∀(w:Wd) (o:Array dn),(Ex a.eval r).runT V w o=(.ok (.value (Po (J (O w.heap.size 0 Q)))) (w.alloc (.cells (l.map (·.den ρ)).toArray d (0,0))),o))(h:wY ⟨yc s.n 0 l s.m,s.env,s.n+1,s.qu,s.cond⟩ sz e (.c (.p s.n 0))=J i)(R:∀p q t,i.n=(ρ++[(t,0)]).length->fx B W H F (ρ++[(t,0)]) i.m sz i.env p q->iv V K true B Stop (G ((aQ f).at p (.inRegion E L::k)) I) q) :
  iv V K true B Stop (G ((aQ f).at a (.inRegion E (b::L)::k)) I) w:=by
 have u:=λc=>P (w.at c) #[];refine CV (ob:=.cells (l.map (·.den ρ)).toArray d (0,0)) (v:=Po (J (O w.heap.size 0 Q))) y z (by show aV≠.early;decide) (λc=>?_) (λc=>congrArg Prod.snd (u c)) mX ?_
 .have:=congrArg Prod.fst (u c);rw[jf]at this;exact this
 .have v:=M.alloc l N d;rw[←j]at v;let⟨S,T,_⟩:=FP (s:=⟨yc s.n 0 l s.m,s.env,s.n+1,s.qu,s.cond⟩) v (v:=.c (.p s.n 0)) (by show s.n<_;simp;omega) h;rw[D];have X:(Sv.c (.p s.n 0)).den (ρ++[(w.heap.size,0)])=Po (J (O w.heap.size 0 Q)):=by
   simp only[Sv.den,nI.den,j,ti]
  grind
theorem YL(M:fx B W H F ρ s.m sz s.env a w)(R:s.n=ρ.length){L:List Nat}{y:aS}{sv:Sv}{l:List nI}{j:List Vu}{u:Mem}(S:E[b]?=J r)(T:r.guard=Q)(X:r.op=.store c z y)(hd:r.dst=Q)(i:pJ s.env z=J (.c (.p d e)))(ht:sL c sU=J (t,j))(hy:pJ s.env y=J sv)(hl:ud sv=J l)(o:(aG l.length j.length&&l.all uz)=true)(x:(fS H d&&cE d s.n)=true)(h:zo d e l s.m=J u)(b':∀D,fx B W H F ρ u sz s.env a D->iv V K true B Stop (G ((aQ f).at a (.inRegion E L::k)) I) D) :
  iv V K true B Stop (G ((aQ f).at a (.inRegion E (b::L)::k)) I) w:=by
 simp only[aB,Nat.ble_eq,Nat.blt_eq]at x o;let⟨c',p⟩:=x;rw[R]at p;have d':l.length=j.length:=Zl o.1;let⟨ex,_⟩:=M.rd i;let⟨ey,e'⟩:=M.rd hy;let⟨ec,f'⟩:=xo (ρ:=ρ) hl;let⟨⟨c0,t0,hb⟩,g'⟩:=M.bl d p;have h':=(Fe h).1;refine wS M.lv S T X hd hb g' M.fit ex ey ec (by rw[br,d'];exact(X3 ht).1) (λv hv=>?_) (λq N=>?_) λw2 s1 s2 s3 s4 P s6=>?_
 .obtain⟨z,i,rfl⟩:=dA.1 hv;exact y8 (aT.1 o.2 z i)
 .rw[br]at N;let⟨a',hc⟩:=h' q N;rw[aP,(M.ce _ hc).2.2];rfl
 .rw[br]at P;exact b' w2 (M.store c' p h (f' _ e') s1 s2 s3 (λq z i=>by grind) P s6)
theorem TZ{m:Mem}{A:aS->Option Sv}{d:Op}{l:List nI}(j:∀t x y,d≠.store t x y):qw m A d≠J (.st b c l):=by
 intro h;have i:∀x:Option Sv,wO x≠J (.st b c l):=λx e=>by cases x<;>cases e
 cases d with
 | store t x y=>grind
 | move x=>exact i _ h
 | assign x=>exact i _ h
 | _ =>
  unfold qw at h
  try simp only at h
  repeat' split at h
  all_goals first|(cases h;done)|exact i _ h|(rename_i e;cases e;done)|(simp_all;done)
theorem Uk{m:Mem}{A:aS->Option Sv}{c:Op}{z:List nI}(i:∀b,c≠.alloc b)(j:∀b x,c≠.box b x):qw m A c≠J (.new b z):=by
 intro h;have d:∀x:Option Sv,wO x≠J (.new b z):=λx e=>by cases x<;>cases e
 cases c with
 | alloc b=>exact i b Z
 | box b x=>grind
 | move x=>exact d _ h
 | assign x=>exact d _ h
 | _ =>
  unfold qw at h
  try simp only at h
  repeat' split at h
  all_goals first|(cases h;done)|exact d _ h|(rename_i e;cases e;done)|(simp_all;done)
theorem Jo{m:Mem}{A:aS->Option Sv}{c:Op}{l:List nI}(h:qw m A c=J (.st b d l)):∃t x y i z sv,c=.store t x y/\A x=J (.c (.p b d))/\sL t sU=J (i,z)/\A y=J sv/\ud sv=J l/\l.length=z.length/\l.all uz=true:=by
 by_cases o:∃t x y,c=.store t x y
 .obtain⟨t,x,y,rfl⟩:=o;unfold qw at h;simp only at h;split at h
  .next N P p =>
   split at h
   .next i z q =>
    split at h
    .next sv r =>
     split at h
     .next R u =>
      split at h
      .next j =>
       injection h with h
       injection h with v D L
       subst v D L;simp only[aB]at j;exact⟨t,x,y,i,z,sv,Z,p,q,r,u,Zl j.1,j.2⟩
      .cases h
     .cases h
    .cases h
   .cases h
  .cases h
 .exact absurd h (TZ λt x y e=>o ⟨t,x,y,e⟩)
theorem Fg{v:Sv}{c:Sm}(h:wY s sz b v=J c):c.cond=s.cond:=by
 let⟨m,env,n,d,C⟩:=s;unfold wY at h
 grind
theorem c6m(M:fx B W H F ρ s.m sz s.env a w)(X:s.n=ρ.length){L:List Nat}{P:Sm}(h:BB F W H E sz b s=J P)(S:P.cond)(u:s.cond->∀i r (bs:List Nat),P.n=(ρ++bs.map λN=>(N,0)).length->fx B W H F (ρ++bs.map λN=>(N,0)) P.m sz P.env i r->iv V K true B Stop (G ((aQ f).at i (.inRegion E L::k)) I) r) :
  iv V K true B Stop (G ((aQ f).at a (.inRegion E (b::L)::k)) I) w:=by
 have h':s.cond->∀i,P.n=ρ.length->fx B W H F ρ P.m sz P.env i w->iv V K true B Stop (G ((aQ f).at i (.inRegion E L::k)) I) w:=λhc i p q=>u hc i w [] (by simpa using p) (by simpa using q);let⟨m,env,n,i',cond⟩:=s;unfold BB at h;simp only at h;split at h
 .next o ho =>
  split at h
  .next T =>
   have T:=Gq M T;split at h
   .next v j' C c =>
    split at h
    .next D R =>
     have hc:=Fg h;rw[hc]at S;let⟨r',k'⟩:=zA S;have ov:=λd=>FT (w:=w.at d) (λx s hs=>M.rd hs) (M.mem d) M.old c k';refine wQ ho T (by show aV≠.early;decide) (ov 0).1.2 (λd=>(ov d).1.1) ?_;let⟨M2,e2,_⟩:=FP (s:=⟨m,env,n,j',Bv cond C⟩) M (ov 0).2 h
     grind
    .cases h
   .next j u' l _ _ c =>
    have c:=(EM c).resolve_right (λ⟨s,e⟩=>by cases e);split at h
    .next R hg =>
     split at h
     .next hj =>
      split at h
      .next m' hm =>
       cases Ze h;let⟨t,x,y,v',z,sv,e',l',ht,hy,hl,n',o'⟩:=Jo c;exact YL M X ho hg e' R l' ht hy hl (by simp[n',o']) hj hm λr M'=>u S a r [] (by simpa using X) (by simpa using M')
      .cases h
     .cases h
    .cases h
   .next t z _ _ c =>
    have c:=(EM c).resolve_right (λ⟨s,e⟩=>by cases e);split at h
    case h_2=>cases h
    case h_1 D R hg =>
    have hc:=Fg h;rw[hc]at S;generalize e':o.op=op at c
    cases op with
    | alloc t' =>
     unfold qw at c;simp only at c;have e0:∀z:List Vu,(z.map nI.v).map (·.den ρ)=z:=λz=>by rw[lW];exact kZ _
     split at c
     .next z' ht =>
      injection c with c
      injection c with p q
      subst p q;exact EJ M X ho hg R (λx u=>by obtain⟨y,_,rfl⟩:=dA.1 u;trivial) (λw es=>by rw[e0];exact Dz e' (X3 ht) (λe=>by cases e) w es) h λi r N p q=>u S i r [N] p q
     .next z' ht =>
      split at c
      .next hh =>
       injection c with c
       injection c with p q
       subst p q;exact EJ M X ho hg R (λx u=>by obtain⟨y,_,rfl⟩:=dA.1 u;trivial) (λw es=>by rw[e0];exact Dz e' (X3 ht) (λ_=>YI hh) w es) h λi r N p q=>u S i r [N] p q
      .cases c
     .cases c
    | box t' x =>
     unfold qw at c;simp only at c;split at c
     .next sv hs =>
      split at c
      .next l hl =>
       injection c with c
       injection c with p q
       subst p q;let⟨ex,p'⟩:=M.rd hs;let⟨ec,q'⟩:=xo (ρ:=ρ) hl;exact EJ M X ho hg R (q' _ p') (λw es=>by rw[←ec];exact WR e' ex w es) h λi r N p q=>u S i r [N] p q
      .cases c
     .cases c
    | _=>exact absurd c (Uk (by grind) (by grind))
   .cases h
  .next T =>
   have T:=Gq M T;split at h
   .next D R =>
    refine G1 ho T ?_;let⟨M2,e2,e3⟩:=FP (s:=⟨m,env,n,i',cond⟩) M (v:=.c (.v Ud)) mX h;rw[R];exact h' (by grind) _ (e2.trans X) M2
   .cases h
  .cases h
 .cases h
end
def oL(K:Bool)(B:Nat->Nat)(f:bC)(d:Array Vu)(w:Wd)(e:Vu->Wd->Prop):Prop:=∀Stop b I,(∀x c,e x c->iv V K true B Stop (G (b.finish x) I) c)->iv V K true B Stop (G (ay V f d .normal) (b::I)) w
def uH(s:Sm):List fj->Option (List pY)
 | []=>J []
 | .tmp t::r=>match tC s.env t with
  | some (.c x)=>match uH s r with
   | some l=>J (.c x::l)
   | none=>Q
  | some (.g x)=>match uH s r with
   | some l=>J (.g x::l)
   | none=>Q
  | _=>Q
 | .cell t ty::r=>match tC s.env t with
  | some (.c (.p i o))=>match sL ty sU with
   | some (true,z)=>match Aa s.m i z.length o with
    | some x=>match uH s r with
     | some l=>J (.g x::l)
     | none=>Q
    | none=>Q
   | _=>Q
  | _=>Q
def uD:List pY->Sv
 | [.c x]=>.c x
 | [.g x]=>.g x
 | l=>.t l
def Ab(b:Array Vu):fj->gi Vu
 | .tmp t=>pure (b.getD t Ud)
 | .cell a t=>do loadVar t (←asAddr (b.getD a Ud))
def yf(r:fj)(b:Array Vu)(w:Wd)(v:Vu):Prop:=(Ab b r).run V w=.ok v w
theorem AR(c:Func)(d:Array Vu):de c d=(do let b ←c.results.mapM (Ab d);pure (if h:b.size=1 then b[0] else .tuple b)):=rfl
variable{A:Mem}{b:l9}{N:Nat}
section
variable{s:Sm}
theorem Ch(M:fx B W H F ρ s.m sz s.env a w)(d:Nat):∀ {p:List fj} {l:List pY},uH s p=J l->l.length=p.length/\∀(j:Nat) (r:fj) (x:pY),p[j]?=J r->l[j]?=J x->yf r a.tmps (w.at d) (x.den ρ)
 | [],l,h=>by cases Ze h;grind
 | .tmp t::p,l,h=>by
  have P:∀v,tC s.env t=J v->a.tmps.getD t Ud=v.den ρ:=λv G=>(M.rd (x:=.tmp t) G).1;unfold uH at h;split at h
  .next x q =>
   split at h
   .next R u =>
    cases Ze h;let⟨D,L⟩:=Ch M d u;refine⟨by simp[D],λj r y c e=>?_⟩
    cases j with
    | zero=>cases Ze c;cases Ze e;unfold yf Ab;simp only[P _ q];rfl
    | succ j=>exact L j r y c e
   .cases h
  .next x q =>
   split at h
   .next R u =>
    cases Ze h;let⟨D,L⟩:=Ch M d u;refine⟨by simp[D],λj r y c e=>?_⟩
    cases j with
    | zero=>cases Ze c;cases Ze e;unfold yf Ab;simp only[P _ q];rfl
    | succ j=>exact L j r y c e
   .cases h
  .cases h
 | .cell t ty::p,l,h=>by
  unfold uH at h;split at h
  .next i o q =>
   have P:a.tmps.getD t Ud=_:=(M.rd (x:=.tmp t) q).1;split at h
   .next z X =>
    split at h
    .next x u =>
     split at h
     .next R a' =>
      cases Ze h;let⟨D,L⟩:=Ch M d a';refine⟨by simp[D],λj r y c e=>?_⟩
      cases j with
      | zero =>
       cases Ze c;cases Ze e;let⟨t1,t2,S⟩:=X3 X;let⟨g1,g2,g3⟩:=ET (M.mem d) u
       cases T:V.underlying ty with
       | none=>grind
       | some dd =>
        rw[T]at S;have:=run_loadVar_mid (P:=V) (w.at d) (nJ ρ i).1 ((nJ ρ i).2+o) ty (x.map (·.den ρ)) dd g3 T (Ze S) (by grind);unfold yf Ab;simp only[P,Sv.den,nI.den,asAddr,bH,eh,aN,this];rfl
      | succ j=>exact L j r y c e
     .cases h
    .cases h
   .cases h
  .cases h
theorem QE{q:Func}{w:Wd}{d:List fj}{l:List pY}(e:q.results=d.toArray)(t:l.length=d.length)(u:d.length<=4)(h:∀(j:Nat) (r:fj) (x:pY),d[j]?=J r->l[j]?=J x->yf r i w (x.den ρ)):(de q i).run V w=.ok ((uD l).den ρ) w:=by
 unfold yf at h
 match d,l,t,u with
 | [],[],_,_=>simp[AR,e,uD,Sv.den]
 | [r],[x],_,_ =>
  have c:=h 0 r x Z Z;simp only[AR,e,fT,fM,iQ,bH,eh,aN,jE,c];cases x<;>simp[uD,Sv.den,pY.den]
 | [r,r2],[x,x2],_,_ =>
  have c:=h 0 r x Z Z;have o:=h 1 r2 x2 Z Z;simp only[AR,e,fT,fM,iQ,bH,eh,aN,jE,c,o];simp[uD,Sv.den]
 | [r,r2,r3],[x,x2,x3],_,_ =>
  have c:=h 0 r x Z Z;have o:=h 1 r2 x2 Z Z;have p:=h 2 r3 x3 Z Z;simp only[AR,e,fT,fM,iQ,bH,eh,aN,jE,c,o,p];simp[uD,Sv.den]
 | [r,r2,r3,r4],[x,x2,x3,x4],_,_ =>
  have c:=h 0 r x Z Z;have o:=h 1 r2 x2 Z Z;have p:=h 2 r3 x3 Z Z;have v:=h 3 r4 x4 Z Z;simp only[AR,e,fT,fM,iQ,bH,eh,aN,jE,c,o,p,v];simp[uD,Sv.den]
theorem fx.defers(M:fx B W H F ρ m sz env a w):a.defers=[]:=M.lv.defers
theorem JC(M:fx B W H F ρ m sz env a w){e:Func}{c:List fj}{l:List pY}(i:e.results=c.toArray)(j:fS c.length 4=true)(h:uH ⟨m,env,N,[],True⟩ c=J l)(d:Nat):(de e a.tmps).run V (w.at d)=.ok ((uD l).den ρ) (w.at d):=by
 let⟨o,p⟩:=Ch (s:=⟨m,env,N,[],True⟩) M d h;exact QE i o (by simpa using j) p
theorem A9{d:Func}{c:List fj}{l:List pY}(M:fx B W H F ρ m sz env a w)(e:V.funcs[f]?=J d)(i:d.results=c.toArray)(j:fS c.length 4=true)(h:uH ⟨m,env,0,[],True⟩ c=J l)(o:iv V K true B Stop (G (S.finish ((uD l).den ρ)) I) w):iv V K true B Stop (G ((aQ f).at a (.code .ret::k)) (S::I)) w :=
 ux (Lj Z M.defers e (JC M i j h) o)
theorem EH{d:Func}{c:List fj}{l:List pY}(M:fx B W H F ρ m sz env a w)(e:V.funcs[f]?=J d)(i:d.results=c.toArray)(j:fS c.length 4=true)(h:uH ⟨m,env,0,[],True⟩ c=J l)(o:iv V K true B Stop (G (S.finish ((uD l).den ρ)) I) w):iv V K true B Stop (G ((aQ f).at a []) (S::I)) w :=
 YP (Lj Z M.defers e (JC M i j h) o)
theorem vD{L:List Nat}{op:Op}(v:Sv)(M:fx B W H F ρ m sz env a w)(i:E[c]?=J r)(j:r.guard=Q)(o:r.op=op)(D:qm V (λ_=>false) [] false op=true)(p:r.dst=J d)(q:cE d sz=true)(t:qA d v env=J b)(x:v.ok ρ.length)(y:∀(e:aL) (u:Wd),e.op=op->u.heap=w.heap->(Ex a.eval e).run V u=.ok (.value (v.den ρ)) u)(z:∀h,fx B W H F ρ m sz b h w->iv V K true B Stop (G ((aQ f).at h (.inRegion E L::k)) I) w):iv V K true B Stop (G ((aQ f).at a (.inRegion E (c::L)::k)) I) w:=by
 refine wQ i (B6 j) (by show aV≠.early;decide) (by grind) (λP=>y r _ o Z) ?_;rw[p];exact z _ (M.put (by simpa using q) x t)
theorem fx.to(M:fx B W H F ρ m sz env a w){w':Wd}(o:w.heap.size<=w'.heap.size)(h:∀i,i<ρ.length->w'.heap[(nJ ρ i).1]?=w.heap[(nJ ρ i).1]?)(p:∀k,k<F.heap.size->k∉W->w'.heap[k]?=w.heap[k]?)(q:Fit B w'):fx B W H F ρ m sz env a w' :=
 ⟨M.lv,λe r=>by
  let⟨c,d,t⟩:=M.ce e r
  exact⟨c,d,(Zf (w:=w) (h _ c)).trans t⟩,M.wf,λi j=>by rw[h i j];exact M.bl i j,M.ij,M.own,Zh M.size o,λk c d=>(p k c d).trans (M.old k c d),q,M.new⟩
theorem Cw(M:fx B W H F ρ m sz env a w):∀ {c:List aS} {d:List Vu},(c.map λx=>(pJ env x).map (·.den ρ))=d.map J->c.map a.eval=d
 | [],[],_=>rfl
 | [],_::_,h=>by cases h
 | _::_,[],h=>by cases h
 | x::c,v::d,h=>by
  simp only[cX,fG]at h
  cases e:pJ env x with
  | none=>grind
  | some s =>
   rw[e]at h;have i:s.den ρ=v:=Ze h.1;rw[cX,(M.rd e).1,i,Cw M h.2]
theorem A4{g:Nat}{L:List Nat}{j:Func}{t:jj}{h:Array aS}{u:Array Ti}{o:List Vu}{p:Vu->Wd->Prop}(M:fx B W H F ρ m sz env a w)(v:oL K B g o.toArray w p)(q:E[c]?=J r)(y:r.guard=Q)(z:r.op=.call { callee:=.value (.func g),args:=h,argTypes:=u })(D:V.funcs[g]?=J j)(P:(j.name== "runtime.NumGoroutine")=false)(R:j.body=J t)(S:(h.toList.map λx=>(pJ env x).map (·.den ρ))=o.map J)(T:r.dst=J d)(hD:cE d sz=true)(X:∀x i,p x i->iv V K true B Stop (G ((aQ f).at (a.put (J d) x) (.inRegion E L::k)) I) i):iv V K true B Stop (G ((aQ f).at a (.inRegion E (c::L)::k)) I) w:=by
 refine yg q (B6 y) (by show aV≠.early;decide) z D P R ?_;have e:h.map a.eval=o.toArray:=by
  rw[←ma (xs:=h.map a.eval),gE,Cw M S]
 rw[e];refine v Stop _ I λx i hp=>?_;rw[yp q,T];exact X x i hp
theorem fx.got(M:fx B W H F ρ m sz env a w){D:Nat}(c:cE D sz=true)(v:Sv)(d:v.ok ρ.length){x:Vu}(e:x=v.den ρ){b:l9}(h:qA D v env=J b):fx B W H F ρ m sz b (a.put (J D) x) w:=by
 subst e;exact M.put (by simpa using c) d h
theorem fx.cut{d:ou}(M:fx B W H F (ρ++d) m sz env a w)(z:∀p∈b,p∈env/\p.2.ok ρ.length)(L:∀e∈A,e∈m/\e.1<ρ.length/\e.2.2.ok ρ.length):fx B W H F ρ A sz b a w:=by
 have q:∀i,i<ρ.length->i<(ρ++d).length:=λi h=>by simp;omega
 have o:∀i,i<ρ.length->nJ (ρ++d) i=nJ ρ i:=λi h=>R9 ρ d i h;refine⟨⟨M.lv.size,M.lv.defers,λp r=>?_⟩,λe h=>?_,λp r=>(z p r).2,λi c=>by rw[←o i c];exact M.bl i (q i c),λi j c D P=>by rw[←o i c,←o j D];exact M.ij i j (q i c) (q j D) P,λi R c=>by rw[←o i c];exact M.own i R (q i c),M.size,M.old,M.fit,M.new⟩
 .let⟨t,v⟩:=p;obtain⟨s,u,rfl⟩:=s7.1 r;let⟨x,y⟩:=z _ u;exact M.lv.has _ (s7.2 ⟨s,x,(Sv.oc d y).symm⟩)
 .let⟨u,x,y⟩:=L e h;let⟨T,G,S⟩:=M.ce e u;rw[o _ x,nI.oc d y]at S
  grind
end
def pM:List (Option Sv)->Nat->Option Sv
 | [],_=>Q
 | v::_,0=>v
 | _::r,n+1=>pM r n
def uX:List aL->Nat->Option aL
 | [],_=>Q
 | o::_,0=>J o
 | _::r,n+1=>uX r n
def vW(j:Nat):List Edge->Bool
 | []=>false
 | e::r=>(cM .any e&&aG e.on j)||vW j r
def Ep(E:List aL)(sz:Nat)(o:aL)(j t:Nat):Bool:=vW j o.after.toList&&(match uX E j with|some c=>(match c.dst with|some u=>aG u t|none=>false)|none=>false)&&cE t sz
def BN(t:Nat):List aL->Bool
 | []=>true
 | o::r=>(match o.dst with|some u=>!aG u t|none=>true)&&BN t r
def yY(E:List aL)(c:List (Option Sv))(sz t:Nat)(o:aL):List Edge->Option Sv
 | []=>Q
 | e::r=>match Ep E sz o e.on t with
  | true=>pM c e.on
  | false=>yY E c sz t o r
def uM(E:List aL)(d:List (Option Sv))(env:l9)(sz:Nat)(o:aL):aS->Option Sv
 | .tmp t=>match BN t E with
  | true=>tC env t
  | false=>yY E d sz t o o.after.toList
 | .const c=>J (.c (.v c))
 | _=>Q
def A3(E:List aL)(c:List (Option Sv))(sz:Nat)(o:aL):Option Bool:=match o.guard with
 | none=>J true
 | some (j,y)=>match uX E j with
  | some d=>match d.dst with
   | some t=>match Ep E sz o j t with
    | true=>match pM c j with
     | some (.c (.v (.bool x)))=>J (x==y)
     | _=>Q
    | false=>Q
   | none=>Q
  | none=>Q
theorem xz(E:Array aL)(j:Nat):uX E.toList j=E[j]?:=by
 have:∀(l:List aL) (j:Nat),uX l j=l[j]?:=by
  intro l
  induction l with
  | nil=>intro j;simp[uX]
  | cons o r c=>intro j;cases j with
   | zero=>rfl
   | succ j=>simp[uX,c]
 grind
theorem zW{d:Array Edge}(h:vW c d.toList=true):(d.any λe=>cM .any e&&e.on==c)=true:=by
 have:∀l:List Edge,vW c l=true->(l.any λe=>cM .any e&&e.on==c)=true:=by
  intro l
  induction l with
  | nil=>intro h;cases h
  | cons e r i =>
   intro h;simp only[vW,cY,aB]at h;simp only[List.any_cons,cY,aB,beq_iff_eq];exact h.imp (λh=>⟨h.1,Zl h.2⟩) i
 grind
theorem Dy{E:Array aL}{sz:Nat}(h:Ep E.toList sz r c d=true):∃i,E[c]?=J i/\(r.after.any λe=>cM .any e&&e.on==c)=true/\i.dst=J d/\d<sz:=by
 simp only[Ep,aB,xz]at h;let⟨⟨o,j⟩,p⟩:=h;split at j
 .next i q =>
  split at j
  .next u t=>exact⟨i,q,zW o,by simp_all,by simpa using p⟩
  .cases j
 .cases j
theorem Nd{E:Array aL}(h:BN c E.toList=true):((aO E.size).all λi=>((E[i]?).map λo=>o.dst != J c).getD true)=true:=by
 have:∀l:List aL,BN c l=true->∀o∈l,o.dst≠J c:=by
  intro l
  induction l with
  | nil=>grind
  | cons x r j =>
   intro h o d;simp only[BN,aB]at h;rcases ae.1 d with rfl|d
   .intro e
    simp_all
   grind
 refine aT.2 λi _=>?_
 cases d:E[i]? with
 | none=>rfl
 | some o =>
  have:=this _ h o (by grind);simpa using this
abbrev qX:=List (Nat×Nat×Nat×nI)
def AE(q i:Nat):Nat->List nI->qX->qX
 | _,[],r=>r
 | o,c::l,r=>(q,i,o,c)::AE q i (o+1) l r
def vg(F:Wd)(W:List Nat)(H n:Nat)(E:Array aL)(e:Mem)(env:l9)(sz i:Nat)(c:List (Option Sv))(d:pB):Option (Option Sv×qX×pB×Option Prop):=match uX E.toList i with
 | some o=>match A3 E.toList c sz o with
  | some false=>match o.dst with
   | some _=>J (J (.c (.v Ud)),[],d,Q)
   | none=>Q
  | some true=>match zc F W e (uM E.toList c env sz o) d o.op with
   | some (.val v,orc',C)=>match o.dst with
    | some _=>J (J v,[],orc',C)
    | none=>Q
   | some (.st j off l,_,_)=>match o.dst,o.guard,fS H j&&cE j n with
    | none,none,true=>J (Q,AE i j off l [],d,Q)
    | _,_,_=>Q
   | _=>Q
  | none=>Q
 | none=>Q
def zt(F:Wd)(W:List Nat)(H n:Nat)(E:Array aL)(d:Mem)(env:l9)(sz:Nat):Nat->Nat->List (Option Sv)->qX->pB->Prop->Option (List (Option Sv)×qX×pB×Prop)
 | 0,_,V,S,qu,C=>J (V,S,qu,C)
 | f+1,i,V,S,qu,C=>match vg F W H n E d env sz i V qu with
  | some (v,s,orc',c)=>zt F W H n E d env sz f (i+1) (V++[v]) (S++s) orc' (Bv C c)
  | none=>Q
def Ap:qX->Bool
 | []=>true
 | (_,i,o,_)::r=>(r.all λe=>!(aG i e.2.1&&aG o e.2.2.1))&&Ap r
def DW(m:Mem):qX->Bool
 | []=>true
 | (_,i,o,_)::r=>(qG m i o).isSome&&DW m r
def BU(S:qX):Mem->Mem->Option Mem
 | [],acc=>J acc
 | (i,o,c)::r,acc=>match S.any λe=>aG i e.2.1&&aG o e.2.2.1 with
  | true=>BU S r acc
  | false=>BU S r ((i,o,c)::acc)
def Da:qX->Mem->Option Mem
 | [],m=>J m
 | (_,i,o,c)::r,m=>Da r ((i,o,c)::m)
def uL(E:Array aL)(sz:Nat):Nat->List (Option Sv)->l9->Option l9
 | _,[],env=>J env
 | i,v::r,env=>match uX E.toList i with
  | some o=>match o.dst,v with
   | some D,some s=>match cE D sz with
    | true=>match qA D s env with
     | some e=>uL E sz (i+1) r e
     | none=>Q
    | false=>Q
   | none,Q=>uL E sz (i+1) r env
   | some D,Q=>match tz D env [] with
    | some e=>uL E sz (i+1) r e
    | none=>Q
   | _,_=>Q
  | none=>Q
def Mq(E:Array aL)(m c:Mem)(S:qX):Bool:=Ap S&&DW m S&&(S.all λe=>(qG c e.2.1 e.2.2.1).isNone)&&tW E&&(aO E.size).all λi=>((E[i]?).map (·.after.all λe=>!cM .any e||decide (e.on<i))).getD true
def tM:List aL->Nat
 | []=>0
 | _::r=>tM r+1
theorem CW(E:Array aL):tM E.toList=E.size:=by
 have:∀l:List aL,tM l=l.length:=by
  intro l
  induction l with
  | nil=>rfl
  | cons o r c=>simp[tM,c]
 grind
def Bn(F:Wd)(W:List Nat)(H sz:Nat)(E:Array aL):Sm->Option Sm
 | ⟨m,env,n,qu,cond⟩=>match zt F W H n E m env sz (tM E.toList) 0 [] [] qu cond with
  | some (V,S,orc',C)=>match BU S m [] with
   | some c=>match uL E sz 0 V env,Da S c with
    | some b,some A=>J ⟨A,b,n,orc',(C/\zt F W H n E c env sz (tM E.toList) 0 [] [] qu cond=J (V,S,orc',C))/\Mq E m c S=true⟩
    | _,_=>Q
   | none=>Q
  | none=>Q
theorem Gu{S:qX}:∀ {m d j:Mem},BU S m d=J j->∀e∈j,e∈m\/e∈d
 | [],d,j,h,e,he=>by cases Ze h;exact .inr he
 | (i,o,c)::r,d,j,h,e,he=>by
  unfold BU at h;split at h
  .exact(Gu h e he).imp_left (ah _)
  .rcases Gu h e he with h|h
   all_goals grind
theorem EB:∀ {l:List nI} {o:Nat} {r:qX} {e:Nat×Nat×Nat×nI},e∈AE c d o l r↔(∃j i,l[j]?=J i/\e=(c,d,o+j,i))\/e∈r
 | [],o,r,e=>by simp[AE]
 | i::l,o,r,e=>by
  simp only[AE,ae,EB (l:=l)];constructor
  .rintro(rfl|⟨j,c',h,rfl⟩|h)
   .simp_all
   .exact .inl ⟨j+1,c',h,by rw[show o+(j+1)=o+1+j by omega]⟩
   .exact .inr h
  grind
theorem wM:∀(c:List (Option Sv)) (j:Nat),pM c j=(c[j]?).getD Q
 | [],j=>by simp[pM]
 | v::r,0=>rfl
 | v::r,j+1=>by simp[pM,wM r j]
theorem Gz{F:Wd}{W:List Nat}{H n:Nat}{E:Array aL}{z:Mem}{env:l9}{sz:Nat}:∀ {f i:Nat} {d o:List (Option Sv)} {S p:qX} {t D:pB} {C u:Prop},d.length=i->zt F W H n E z env sz f i d S t C=J (o,p,D,u)->o.length=i+f/\(∀j,j<i->o[j]?=d[j]?)/\(∀e∈S,e∈p)/\(u->C)/\∃r:Nat->pB,(∀j,i<=j->j<i+f->∃v s q c,vg F W H n E z env sz j (o.take j) (r j)=J (v,s,q,c)/\o[j]?=J v/\(u->An c)/\∀e∈s,e∈p)/\∀e∈p,e∈S\/∃j v s q c,i<=j/\j<i+f/\vg F W H n E z env sz j (o.take j) (r j)=J (v,s,q,c)/\e∈s
 | 0,i,d,o,S,p,t,D,C,u,hl,h=>by
  obtain⟨rfl,L⟩:=ax (Ze h);obtain⟨rfl,P⟩:=ax L;obtain⟨rfl,rfl⟩:=ax P;exact⟨by omega,λ_ _=>rfl,λ_ h=>h,id,λ_=>[],λj L P=>by omega,λe h=>.inl h⟩
 | f+1,i,d,o,S,p,t,D,C,u,hl,h=>by
  unfold zt at h;split at h
  .next v s G c M =>
   let⟨g1,g2,R,T,r,g4,g5⟩:=Gz (by simp[hl]) h;have X:∀j,j<i->o[j]?=d[j]?:=λj x=>by
    grind
   have ht:o.take i=d:=by
    apply List.ext_getElem?
    grind
   have eo:∀j,j≠i->(if j=i then t else r j)=r j:=λj x=>mY x;refine⟨by omega,X,λe y=>R e (fK _ y),λh=>(zA (T h)).1,λj=>if j=i then t else r j,λj L P=>?_,λe y=>?_⟩
   .by_cases x:j=i
    .subst x;refine⟨v,s,G,c,by rw[ht];simp only[if_true];exact M,?_,λh=>(zA (T h)).2,λe y=>R e (da _ y)⟩
     grind
    grind
   grind
  .cases h
theorem KC:∀ {S:qX},Ap S=true->S.Pairwise λe d=>¬(e.2.1=d.2.1/\e.2.2.1=d.2.2.1)
 | [],_=>.nil
 | (q,i,o,c)::r,h=>by
  simp only[Ap,aB]at h;refine List.pairwise_cons.2 ⟨λe j p=>?_,KC h.2⟩;have:=aT.1 h.1 e j
  simp_all
theorem Xf{S:qX}(h:Ap S=true){e c:Nat×Nat×Nat×nI}(d:e∈S)(j:c∈S)(o:e.2.1=c.2.1)(p:e.2.2.1=c.2.2.1):e=c:=by
 have i:=KC h;clear h
 induction i with
 | nil=>cases d
 | cons q _ r =>
  grind
theorem Ei{m:Mem}:∀ {S:qX},DW m S=true->∀e∈S,∃c,(e.2.1,e.2.2.1,c)∈m
 | (q,i,o,c)::r,h,e,he=>by
  simp only[DW,aB]at h;rcases ae.1 he with rfl|he
  .let⟨d,j⟩:=cH.1 h.1;exact⟨d,xV j⟩
  .exact Ei h.2 e he
theorem My{o:Nat}{c:nI}:∀ {m:Mem},(d,o,c)∈m->qG m d o≠Q
 | (i',o',x)::r,h,e=>by
  unfold qG at e;split at e
  .cases e
  .next i =>
   rcases ae.1 h with h|h
   .simp_all
   .exact My h e
theorem NB:∀ {S:qX} {m A:Mem},Da S m=J A->∀e∈A,e∈m\/∃q,(q,e)∈S
 | [],m,A,h,e,he=>by cases Ze h;exact .inl he
 | (q,i,o,c)::r,m,A,h,e,he=>by
  have h:Da r ((i,o,c)::m)=J A:=h;rcases NB h e he with h|⟨d,h⟩
  all_goals grind
theorem Ax{E:Array aL}{sz:Nat}:∀ {c:List (Option Sv)} {i:Nat} {env b:l9},uL E sz i c env=J b->∀p∈b,(∃j o,i<=j/\E[j]?=J o/\o.dst=J p.1/\p.1<sz/\c[j - i]?=J (J p.2))\/(p∈env/\∀j o,i<=j->j<i+c.length->E[j]?=J o->o.dst≠J p.1)
 | [],i,env,b,h,p,hp=>by
  cases Ze h
  grind
 | v::r,i,env,b,h,p,hp=>by
  unfold uL at h;rw[xz]at h;split at h
  .next o z =>
   have up:∀ {env:l9},((∃j o,i+1<=j/\E[j]?=J o/\o.dst=J p.1/\p.1<sz/\r[j - (i+1)]?=J (J p.2))\/(p∈env/\∀j o,i+1<=j->j<i+1+r.length->E[j]?=J o->o.dst≠J p.1))->(∃j o,i<=j/\E[j]?=J o/\o.dst=J p.1/\p.1<sz/\(v::r)[j - i]?=J (J p.2))\/(p∈env/\∀j o,i+1<=j->j<i+1+r.length->E[j]?=J o->o.dst≠J p.1):=λh=>h.imp_left λ⟨j,o,q,t,L,P,S⟩=>⟨j,o,by omega,t,L,P,by grind⟩
   split at h
   .next D s u =>
    split at h
    .next R =>
     split at h
     .next e x =>
      rcases up (Ax h p hp) with g|⟨d,y⟩
      .exact .inl g
      .rcases BQ x p d with rfl|⟨q,t⟩
       .exact .inl ⟨i,o,af _,z,u,by simpa using R,by simp⟩
       grind
     .cases h
    .cases h
   .next u =>
    rcases up (Ax h p hp) with g|⟨d,y⟩
    all_goals grind
   .next D u =>
    split at h
    .next e x =>
     rcases up (Ax h p hp) with g|⟨d,y⟩
     .exact .inl g
     .rcases BH x p d with⟨q,t⟩|q
      all_goals grind
    .cases h
   .cases h
  .cases h
end
end
end Go.Proofs.YtcgabodkegcpgaaGreatDoor