/- A walk in company, many operations at once: moves, choices, what is not wanted: by a function. -/
import Derived.Test.YtcgabodkegcpgaaDoorCia
set_option linter.unusedVariables false
set_option linter.unusedSimpArgs false
set_option maxHeartbeats 20000000
set_option maxRecDepth 100000
namespace Go.Proofs.YtcgabodkegcpgaaDoor
open Go.Conc Go.RowKit
open Br (X OpD KO SO SP sfO Lk Fit Must DL Liv Clear)
abbrev a2X:=List (Nat × Value)
def opE (env:a2X):Operand->Option Value
 | .tmp t=>env.lookup t
 | .const c=>some c
 | _=>none
def c0c (b:Option Value)(x y:Option Value):Option Value:=match b with
 | some (.bool true)=>x
 | some (.bool false)=>y
 | _=>none
def b6n:List Value->Nat->Option Value
 | [],_=>none
 | v::_,0=>some v
 | _::r,n+1=>b6n r n
theorem b2L:∀ (l:List Value) (n:Nat),b6n l n=l[n]?
 | [],n=>by simp [b6n]
 | v::_,0=>rfl
 | _::r,n+1=>by simp [b6n,b2L r n]
def b3z (rd:Operand->Option Value):Op->Option Value
 | .move x=>rd x
 | .assign x=>rd x
 | .pick c x y=>c0c (rd c) (rd x) (rd y)
 | .unOp .not _ x=>match rd x with
  | some (.bool true)=>some (.bool false)
  | some (.bool false)=>some (.bool true)
  | _=>none
 | .extract x n=>match rd x with
  | some (.tuple vs)=>b6n vs.toList n
  | _=>none
 | _=>none
def c2d (env:a2X)(op:Op):Option Value:=b3z (opE env) op
def b6o (ops:Array Oper)(env:a2X)(o:Oper):Option Bool:=match o.guard with
 | none=>some true
 | some (j,y)=>match ops[j]? with
  | some oj=>match oj.dst with
   | some t=>match env.lookup t with
    | some (.bool x)=>some (x == y)
    | _=>none
   | none=>none
  | none=>none
def c0d (ops:Array Oper)(sz i:Nat)(env:a2X):Option (Nat × Value):=match ops[i]? with
 | some o=>match o.dst with
  | some D=>match Nat.blt D sz && a4L D env with
   | true=>match b6o ops env o with
    | some true=>match c2d env o.op with
     | some v=>some (D,v)
     | none=>none
    | some false=>some (D,undef)
    | none=>none
   | false=>none
  | none=>none
 | none=>none
def b8T (ops:Array Oper)(sz:Nat):Nat->List Nat->a2X->Option (List Nat × a2X)
 | 0,L,env=>some (L,env)
 | n+1,[],env=>none
 | n+1,i::L,env=>match c0d ops sz i env with
  | some (D,v)=>b8T ops sz n L ((D,v)::env)
  | none=>none
def b3A (n:Nat):a2X->a2X->Option a2X
 | [],acc=>some acc
 | (t,v)::r,acc=>match Nat.blt t n with
  | true=>b3A n r ((t,v)::acc)
  | false=>b3A n r acc
theorem a6i {n:Nat}:∀ {env acc env':a2X},b3A n env acc=some env'->∀ p∈env',p∈env\/p∈acc
 | [],acc,env',h,p,hp=>by
  simp only [b3A,Option.some.injEq] at h;subst h;exact .inr hp
 | (t,v)::r,acc,env',h,p,hp=>by
  unfold b3A at h;split at h
  ·rcases a6i h p hp with h|h
   ·exact .inl (List.mem_cons_of_mem _ h)
   ·rcases List.mem_cons.1 h with rfl|h
    ·exact .inl (List.mem_cons_self ..)
    ·exact .inr h
  ·rcases a6i h p hp with h|h
   ·exact .inl (List.mem_cons_of_mem _ h)
   ·exact .inr h
theorem Lvs.low {sz:Nat}{env env':a2X}{a:Act}(h:Lvs sz env a)(n:Nat)(hl:b3A n env []=some env'):Lvs sz env' a:=⟨h.size,h.defers,λp hp=>h.has p ((a6i hl p hp).resolve_right (by simp))⟩
section
variable {sz:Nat} {env:a2X} {a:Act} {ops:Array Oper}
theorem b6p (hA:Lvs sz env a){x:Operand}{v:Value}(h:opE env x=some v):a.eval x=v:=by
 unfold opE at h;split at h
 ·exact hA.get h
 ·exact Option.some.inj h
 ·cases h
theorem a9S {rd:Operand->Option Value}(hr:∀ x v,rd x=some v->a.eval x=v){o:Oper}{v:Value}(h:b3z rd o.op=some v)(w:World):(execOp a.eval o).run Tryd.prog w=.ok (.value v) w:=by
 generalize hop:o.op=op at h;unfold b3z at h;split at h
 ·exact w8 hop (hr _ _ h)
 ·exact P6 hop (hr _ _ h)
 ·next c x y =>
  unfold c0c at h;split at h
  ·next hb =>
   have e1:=hr _ _ hb;have e2:=hr _ _ h;unfold execOp;simp only [hop,e1,e2];go_simp
  ·next hb =>
   have e1:=hr _ _ hb;have e2:=hr _ _ h;unfold execOp;simp only [hop,e1,e2];go_simp
  ·cases h
 ·next t x =>
  split at h
  ·next hb =>
   have e1:=hr _ _ hb;obtain rfl:=Option.some.inj h;unfold execOp;simp only [hop,e1];go_simp
  ·next hb =>
   have e1:=hr _ _ hb;obtain rfl:=Option.some.inj h;unfold execOp;simp only [hop,e1];go_simp
  ·cases h
 ·next x n =>
  split at h
  ·next vs hb=>exact U4 hop (hr _ _ hb) (by rw [b2L] at h;simpa using h)
  ·cases h
 ·cases h
theorem okR {rd:Operand->Option Value}{op:Op}{v:Value}(h:b3z rd op=some v):Br.Y6 Tryd.prog (λ_=>false) [] false op=true:=by
 unfold b3z at h;split at h<;>first|rfl|cases h
theorem a9T (hA:Lvs sz env a){o:Oper}{b:Bool}(h:b6o ops env o=some b):Region.wanted o (yielded ops a.tmps)=b:=by
 unfold b6o at h;split at h
 ·next hg=>rw [C6 hg];exact Option.some.inj h
 ·next j y hg =>
  split at h
  ·next oj hj =>
   split at h
   ·next t ht =>
    split at h
    ·next x hx=>rw [hA.wanted hg hj ht hx];exact Option.some.inj h
    ·cases h
   ·cases h
  ·cases h
variable {main:Bool} {sft:Nat->Nat} {Stop:Goroutine->World->Prop} {f:FuncId} {k:List Item} {cs:List Frame} {w:World}
theorem ns:∀ (n:Nat) {L L':List Nat} {env env':a2X} {a:Act},Lvs sz env a->b8T ops sz n L env=some (L',env')->(∀ a',Lvs sz env' a'->Liv Tryd.prog main true sft Stop (G ((base f).at a' (.inRegion ops L'::k)) cs) w)->Liv Tryd.prog main true sft Stop (G ((base f).at a (.inRegion ops L::k)) cs) w
 | 0,L,L',env,env',a,hA,h,hn=>by
  simp only [b8T,Option.some.injEq,Prod.mk.injEq] at h;obtain ⟨rfl,rfl⟩:=h;exact hn a hA
 | n+1,[],L',env,env',a,hA,h,hn=>by cases h
 | n+1,i::L,L',env,env',a,hA,h,hn=>by
  unfold b8T at h;split at h
  ·next D v hs =>
   unfold c0d at hs;split at hs
   ·next o ho =>
    split at hs
    ·next D' hd =>
     split at hs
     ·next hb =>
      simp only [Bool.and_eq_true] at hb;split at hs
      ·next hw =>
       split at hs
       ·next v' hv =>
        simp only [Option.some.injEq,Prod.mk.injEq] at hs;obtain ⟨rfl,rfl⟩:=hs;exact a9v hA ho (a9T hA hw) (okR hv) hd hb.1 hb.2 (λd=>a9S (λ_ _=>b6p hA) hv _) (λa' hA'=>ns n hA' h hn)
       ·cases hs
      ·next hw =>
       simp only [Option.some.injEq,Prod.mk.injEq] at hs;obtain ⟨rfl,rfl⟩:=hs;exact b2R hA ho (a9T hA hw) hd (by simpa using hb.1) (λa' hA'=>ns n (by rw [a1a hb.2] at hA';exact hA') h hn)
      ·cases hs
     ·cases hs
    ·cases hs
   ·cases hs
  ·cases h
end
noncomputable def n6 (n:Nat):Array Oper:=((Tryd.f7.body).bind (a0d n)).getD #[]
noncomputable abbrev rf (n:Nat):Code:=.region n (n6 n) false
noncomputable abbrev P2 (n:Nat):Code:=.seq (rf n) .ret
noncomputable def H9:Code:=.seq (.seq (rf 19) (.cond (.tmp 111) .skip (.exit 2))) (.seq (.block 3 (rf 21)) (rf 20))
noncomputable def a1D:Code:=.seq (rf 14) (.seq (.seq (rf 15) (.cond (.tmp 98) (P2 16) .skip)) (.seq (rf 17) (.seq (.seq (rf 18) (.block 2 (.loop H9))) (rf 22))))
noncomputable def B9:Code:=.seq (.seq (rf 11) (.cond (.tmp 71) .skip (.exit 0))) (.seq (.block 1 (.seq (rf 13) (.cond (.tmp 84) a1D .skip))) (rf 12))
noncomputable def a1E:Code:=.seq (rf 28) (.seq (.seq (rf 29) (.cond (.tmp 176) (P2 30) .skip)) (rf 31))
noncomputable def B1:Code:=.seq (.seq (rf 25) (.cond (.tmp 145) .skip (.exit 4))) (.seq (.block 5 (.seq (rf 27) (.cond (.tmp 160) a1E .skip))) (rf 26))
noncomputable def L3:Code:=.seq (.seq (rf 45) (.cond (.tmp 283) .skip (.exit 6))) (.seq (.block 7 (.seq (rf 47) (.seq (rf 48) (.seq (.seq (.region 49 (n6 49) true) (.cond (.tmp 325) (P2 50) .skip)) (.seq (.region 51 (n6 51) true) (.cond (.tmp 360) (P2 52) .skip)))))) (rf 46))
noncomputable def W6:Code:=.seq (rf 53) (.seq (rf 54) (.seq (rf 55) (.seq (rf 56) (.seq (rf 57) (P2 58)))))
noncomputable def X1:Code:=.seq (.seq (rf 38) (.cond (.tmp 248) (P2 39) .skip)) (.seq (rf 40) (.seq (rf 41) (.seq (.seq (.region 42 (n6 42) true) (.cond (.tmp 281) (P2 43) .skip)) (.seq (.seq (rf 44) (.block 6 (.loop L3))) W6))))
noncomputable def L4:Code:=.seq (rf 32) (.seq (rf 33) (.seq (rf 34) (.seq (.seq (rf 35) (.cond (.tmp 201) (.seq (rf 36) (P2 37)) .skip)) X1)))
noncomputable def G5:Code:=.seq (rf 23) (.seq (.seq (rf 24) (.block 4 (.loop B1))) L4)
noncomputable def a6j:Code:=.seq (rf 0) (.seq (rf 1) (.seq (rf 2) (.seq (rf 3) (.seq (.seq (rf 4) (.cond (.tmp 59) (P2 5) .skip)) (.seq (rf 6) (.seq (.seq (rf 7) (.cond (.tmp 63) (P2 8) .skip)) (.seq (rf 9) (.seq (.seq (rf 10) (.block 0 (.loop B9))) G5))))))))
theorem b8U:Tryd.f7.body=some a6j:=by kernel_rfl
theorem b6q (v0 v1 v2 v3 v4:Value):∃ a,Frame.enter Tryd.prog 7 #[v0,v1,v2,v3,v4] .normal=(base 7).at a [.code a6j]/\Lvs 418 [(0,v0),(1,v1),(2,v2),(3,v3),(4,v4)] a:=by
 refine ⟨_,enter_at (c:=a6j) _ Tryd.func7 b8U,?_⟩;have e:Tryd.f7.ntmps=418:=by kernel_rfl
 refine ⟨by simp [e],rfl,λp hp=>?_⟩;simp only [List.mem_cons,List.not_mem_nil,or_false] at hp;rcases hp with rfl|rfl|rfl|rfl|rfl<;>simp [e]
abbrev FL (l:List OpD)(Stop:Goroutine->World->Prop)(a:Act)(k:List Item)(cs:List Frame)(w:World):Prop:=Liv Tryd.prog true true (sfO l) Stop (G ((base 7).at a k) cs) w
theorem c2e {Stop:Goroutine->World->Prop}{w:World}(T:Tab w){x y z:Int}(hx:-9223372036854775808<=x/\x<9223372036854775808)(hy:-9223372036854775808<=y/\y<9223372036854775808)(hz:-9223372036854775808<=z/\z<9223372036854775808){vp vw vf vc:Value}{a:Act}(hA:Lvs 418 [(0,.agg #[.int .i64 x,.int .i64 y,.int .i64 z]),(1,vp),(2,vw),(3,vf),(4,vc)] a)(k:List Item)(cs:List Frame)
  (hn:∀ a' w' (kb:Kb) (b:Lb),Grown w w'->w.heap.size<w'.heap.size->w'.heap[w.heap.size]?=some (.cells #[.int .i64 (((2+v8 x 31:Nat):Int)),.int .i64 (((1+v8 y 6:Nat):Int)),.int .i64 (((v8 z 5:Nat):Int))] 30 (0,0))->w.heap.size<kb.bk->w.heap.size<kb.bf->w.heap.size<kb.bs->w.heap.size<kb.bd->(∀ r,Co kb [] (D7 (2+v8 x 31) (1+v8 y 6) (v8 z 5)) (λ_=>none) r (λ_=>none) 1 w')->LibM kb [] (λ_=>none) w' b (D7 (2+v8 x 31) (1+v8 y 6) (v8 z 5)).nS (b.bl+1) (λ_=>none) (λ_=>.slice none 0 0) (λ_=>0) (λ_=>[])->(w.heap.size<b.bu/\w.heap.size<b.bn)->Lvs 418 [(1,vp),(2,vw),(3,vf),(4,vc),(5,.pointer (some ⟨w.heap.size,0,none⟩)),(12,.pointer (some ⟨kb.bk,0,none⟩)),(14,.pointer (some ⟨b.bl,0,none⟩)),(15,.int .i64 0),(16,.int .i64 0)] a'->FL [] Stop a' (.code B9::.inLoop B9::.inBlock 0::.code G5::k) cs w') :
  FL [] Stop a (.code a6j::k) cs w:=by
 unfold a6j;refine Br.b8 ?_;refine g9 (ops:=n6 0) (n:=0) (il:=[0,1]) (by kernel_rfl) ?_;obtain ⟨o',ho,hop,hd,hg⟩:∃ o',(n6 0)[0]?=some o'/\o'.op=.box 30 (.tmp 0)/\o'.dst=some 5/\o'.guard=none:=⟨_,rfl,rfl,rfl,rfl⟩;have e0:=hA.g 0 rfl;refine a5G (ob:=.cells #[.int .i64 x,.int .i64 y,.int .i64 z] 30 (0,0)) (v:=.pointer (some ⟨w.heap.size,0,none⟩)) hA ho hg (by decide) hd (by decide) (λd=>by unfold execOp;simp only [hop,e0];go_simp;try rfl) (λd=>by unfold execOp;simp only [hop,e0];simp [go_sem]) trivial (λa hA=>?_);clear ho hop hd hg e0;have hG1:=M5 (w:=w) trivial (ob:=.cells #[.int .i64 x,.int .i64 y,.int .i64 z] 30 (0,0)) trivial;have hX1:=heap_alloc_new w (.cells #[.int .i64 x,.int .i64 y,.int .i64 z] 30 (0,0));have hs1:(w.alloc (.cells #[.int .i64 x,.int .i64 y,.int .i64 z] 30 (0,0))).heap.size=w.heap.size+1:=by simp
 generalize w.alloc (.cells #[.int .i64 x,.int .i64 y,.int .i64 z] 30 (0,0))=w1 at *;refine nt hA rfl rfl rfl rfl rfl rfl rfl (λa hA=>?_);refine Br.a9 ?_;have T1:Tab w1:=T.same (hG1.old 0 T.lt);refine Br.b8 ?_;refine g9 (ops:=n6 1) (n:=1) (il:=[0,1]) (by kernel_rfl) ?_;refine a0t (vs:=#[]) hA rfl rfl (by decide) rfl rfl (by decide) Tryd.func9 rfl rfl (by simp) (λfr cs d=>b1o T1 fr cs d) (λu w2 hR a hA=>?_);obtain ⟨hG2,rfl⟩:=hR;replace hA:Lvs 418 [(42,.bool true),(10,.bool false),(5,.pointer (some ⟨w.heap.size,0,none⟩)),(0,.agg #[.int .i64 x,.int .i64 y,.int .i64 z]),(1,vp),(2,vw),(3,vf),(4,vc)] a:=hA;refine nt hA rfl rfl rfl (hA.get rfl) rfl rfl rfl (λa hA=>?_);refine Br.a9 ?_;replace hA:=hA.low 42 rfl;have hX2:=(hG2.old _ (by omega)).trans hX1;have cx:∀ j v d,([.int .i64 x,.int .i64 y,.int .i64 z]:List Value)[j]?=some v->(w2.at d).cell? ⟨w.heap.size,j,none⟩=some v:=λj v d hv=>by
  show w2.cell? _=_;simp only [World.cell?,hX2];simpa using hv
 refine Br.b8 ?_;refine g9 (ops:=n6 2) (n:=2) (il:=[0,1,2]) (by kernel_rfl) ?_;refine nop (v:=.agg #[.int .i64 x,.int .i64 y,.int .i64 z]) (op:=.load 30 (.tmp 5)) hA rfl rfl rfl rfl rfl rfl rfl (λo hop d=>by have z0:=cx 0 _ d rfl;have z1:=cx 1 _ d rfl;have z2:=cx 2 _ d rfl;unfold execOp;simp only [hop,hA.g 5 rfl];go_simp;try rfl) (λa hA=>?_);have e43:=hA.g 43 rfl;refine a0t (vs:=#[.agg #[.int .i64 x,.int .i64 y,.int .i64 z]]) hA rfl rfl (by decide) rfl rfl (by decide) Tryd.func12 rfl rfl (by simp only [List.map_toArray,List.map_cons,List.map_nil,e43]) (λfr cs d=>a7t hx hy hz fr cs d) (λu w3 hR a hA=>?_);obtain ⟨hG3,rfl⟩:=hR;clear e43 cx;replace hA:Lvs 418 [(44,.agg #[.int .i64 (((2+v8 x 31:Nat):Int)),.int .i64 (((1+v8 y 6:Nat):Int)),.int .i64 (((v8 z 5:Nat):Int))]),(43,.agg #[.int .i64 x,.int .i64 y,.int .i64 z]),(4,vc),(3,vf),(2,vw),(1,vp),(0,.agg #[.int .i64 x,.int .i64 y,.int .i64 z]),(5,.pointer (some ⟨w.heap.size,0,none⟩)),(10,.bool false),(11,.bool true)] a:=hA;have s2:=hG2.size;have s3:=hG3.size;have hX3:=(hG3.old _ (by omega)).trans hX2;have ea:=hA.g 5 rfl;have eb:=hA.g 44 rfl;obtain ⟨o',ho,hop,hd,hg⟩:∃ o',(n6 2)[2]?=some o'/\o'.op=.store 30 (.tmp 5) (.tmp 44)/\o'.dst=none/\o'.guard=none:=⟨_,rfl,rfl,rfl,rfl⟩;refine a1Y hA ho hg (by decide) hop hd (a3Y _) ea eb hX3 (by rfl) (by kernel_rfl) (by kernel_rfl) (a6r _) (λw4 hs4 hk4 hX4=>?_);clear ho hop hd hg ea eb;refine Br.a9 ?_;replace hA:=hA.low 42 rfl;have hG4:Grown w w4:=⟨by omega,λj hj=>by rw [hk4 j (by omega)];exact ((hG1.trans hG2).trans hG3).old j hj,trivial⟩;have T4:Tab w4:=T.same (hG4.old 0 T.lt);have px:=V1 x (n:=31) (by decide);have py:=V1 y (n:=6) (by decide);have pz:=V1 z (n:=5) (by decide);have cx:∀ j v d,([.int .i64 (((2+v8 x 31:Nat):Int)),.int .i64 (((1+v8 y 6:Nat):Int)),.int .i64 (((v8 z 5:Nat):Int))]:List Value)[j]?=some v->(w4.at d).cell? ⟨w.heap.size,j,none⟩=some v:=λj v d hv=>by
  show w4.cell? _=_;simp only [World.cell?,hX4];simpa using hv
 refine Br.b8 ?_;refine g9 (ops:=n6 3) (n:=3) (il:=[0,1,2,3,4,5,6]) (by kernel_rfl) ?_;refine nop (v:=.agg #[.int .i64 (((2+v8 x 31:Nat):Int)),.int .i64 (((1+v8 y 6:Nat):Int)),.int .i64 (((v8 z 5:Nat):Int))]) (op:=.load 30 (.tmp 5)) hA rfl rfl rfl rfl rfl rfl rfl (λo hop d=>by have z0:=cx 0 _ d rfl;have z1:=cx 1 _ d rfl;have z2:=cx 2 _ d rfl;unfold execOp;simp only [hop,hA.g 5 rfl];go_simp;try rfl) (λa hA=>?_);have e46:=hA.g 46 rfl;refine a0t (vs:=#[.agg #[.int .i64 (((2+v8 x 31:Nat):Int)),.int .i64 (((1+v8 y 6:Nat):Int)),.int .i64 (((v8 z 5:Nat):Int))]]) hA rfl rfl (by decide) rfl rfl (by decide) Tryd.func10 rfl rfl (by simp only [List.map_toArray,List.map_cons,List.map_nil,e46]) (λfr cs d=>b1r T4 (2+v8 x 31) (1+v8 y 6) (v8 z 5) (by omega) (by omega) (by omega) (by omega) (by omega) fr cs d) (λu w5 hR a hA=>?_);obtain ⟨kb,rfl,hG5,g1,g2,g3,g4,hco⟩:=hR;clear e46 cx;replace hA:Lvs 418 [(47,.tuple #[.pointer (some ⟨kb.bk,0,none⟩),.int .i64 0]),(46,.agg #[.int .i64 (((2+v8 x 31:Nat):Int)),.int .i64 (((1+v8 y 6:Nat):Int)),.int .i64 (((v8 z 5:Nat):Int))]),(11,.bool true),(10,.bool false),(5,.pointer (some ⟨w.heap.size,0,none⟩)),(0,.agg #[.int .i64 x,.int .i64 y,.int .i64 z]),(1,vp),(2,vw),(3,vf),(4,vc)] a:=hA;refine ns 5 hA rfl (λa hA=>?_);refine Br.a9 ?_;replace hA:=hA.low 42 rfl;refine Br.b8 ?_;refine Br.b8 ?_;refine g9 (ops:=n6 4) (n:=4) (il:=[0,1,2,3,4,5,6,7,8,9]) (by kernel_rfl) ?_;refine ns 4 hA rfl (λa hA=>?_);refine v6 (v:=.bool false) (op:=.binOp .eql 25 (.tmp 53) (.const (.pointer none)) 25) hA rfl rfl rfl rfl rfl rfl rfl (by kernel_rfl) rfl rfl rfl (λo hop d=>by unfold execOp;simp only [hop,hA.g 53 rfl];go_simp) (λa hA=>?_);refine ns 3 hA rfl (λa hA=>?_);refine v6 (v:=.bool false) (op:=.binOp .neq 26 (.tmp 57) (.const (.int .i64 0)) 26) hA rfl rfl rfl rfl rfl rfl rfl (by kernel_rfl) rfl rfl rfl (λo hop d=>by unfold execOp;simp only [hop,hA.g 57 rfl];go_simp) (λa hA=>?_);refine ns 1 hA rfl (λa hA=>?_);refine Br.a9 ?_;refine Br.t7 (t:=false) (hA.get rfl) ?_;refine Br.l9 ?_;refine Br.b8 ?_;refine g9 (ops:=n6 6) (n:=6) (il:=[0,1,2]) (by kernel_rfl) ?_;refine nm hA rfl rfl rfl (hA.get rfl) rfl rfl rfl (λa hA=>?_);have e60:=hA.g 60 rfl;refine a0t (vs:=#[.pointer (some ⟨kb.bk,0,none⟩)]) hA rfl rfl (by decide) rfl rfl (by decide) Tryd.func16 rfl rfl (by simp only [List.map_toArray,List.map_cons,List.map_nil,e60]) (λfr cs d=>b3J (hco 0) fr cs d) (λu w6 hR a hA=>?_);obtain ⟨hG6,b,rfl,hbu,hlm⟩:=hR;clear e60;replace hA:Lvs 418 [(61,.pointer (some ⟨b.bl,0,none⟩)),(60,.pointer (some ⟨kb.bk,0,none⟩)),(59,.bool false),(58,.bool false),(57,.int .i64 0),(56,.bool false),(55,.bool false),(54,.bool false),(53,.pointer (some ⟨kb.bk,0,none⟩)),(52,.bool false),(51,.bool false),(50,.bool true),(4,vc),(3,vf),(2,vw),(1,vp),(0,.agg #[.int .i64 x,.int .i64 y,.int .i64 z]),(5,.pointer (some ⟨w.heap.size,0,none⟩)),(10,.bool false),(11,.bool true),(12,.pointer (some ⟨kb.bk,0,none⟩)),(13,.int .i64 0)] a:=hA;refine nt hA rfl rfl rfl (hA.get rfl) rfl rfl rfl (λa hA=>?_);refine Br.a9 ?_
 replace hA:=hA.low 42 rfl;refine Br.b8 ?_;refine Br.b8 ?_;refine g9 (ops:=n6 7) (n:=7) (il:=[0,1]) (by kernel_rfl) ?_;refine ns 1 hA rfl (λa hA=>?_);refine nop (v:=.bool false) (op:=.binOp .eql 58 (.tmp 62) (.const (.pointer none)) 58) hA rfl rfl rfl (by kernel_rfl) rfl rfl rfl (λo hop d=>by unfold execOp;simp only [hop,hA.g 62 rfl];go_simp) (λa hA=>?_);refine Br.a9 ?_;refine Br.t7 (t:=false) (hA.get rfl) ?_;refine Br.l9 ?_;refine Br.b8 ?_;refine g9 (ops:=n6 9) (n:=9) (il:=[0]) (by kernel_rfl) ?_;refine ns 1 hA rfl (λa hA=>?_);refine Br.a9 ?_;refine Br.b8 ?_;refine Br.b8 ?_;refine g9 (ops:=n6 10) (n:=10) (il:=[0]) (by kernel_rfl) ?_;refine ns 1 hA rfl (λa hA=>?_);refine Br.a9 ?_;refine Br.N7 ?_;refine Br.a2m ?_;have s5:=hG5.size;have s6:=hG6.size;exact hn a w6 kb b ((hG4.trans hG5).trans hG6) (by omega) ((hG6.old _ (by omega)).trans ((hG5.old _ (by omega)).trans hX4)) (by omega) (by omega) (by omega) (by omega) (λr=>(hco r).grown hG6) hlm ⟨by omega,by omega⟩ (hA.cut ⟨rfl,rfl,rfl,rfl,rfl,rfl,rfl,rfl,rfl,trivial⟩)
theorem c1C {l:List OpD}{Stop:Goroutine->World->Prop}{w:World}{vw vf vc vk vl:Value}{pa:Option Addr}{pl pc had i cB:Nat}(hi:i=4){a:Act}(hA:Lvs 418 [(1,.slice pa pl pc),(2,vw),(3,vf),(4,vc),(5,.pointer (some ⟨cB,0,none⟩)),(12,vk),(14,vl),(15,.int .i64 had),(16,.int .i64 i)] a)(k:List Item)(cs:List Frame)
  (hn:∀ a',Lvs 418 [(1,.slice pa pl pc),(2,vw),(3,vf),(4,vc),(5,.pointer (some ⟨cB,0,none⟩)),(12,vk),(14,vl),(15,.int .i64 had),(16,.int .i64 i)] a'->FL l Stop a' (.code G5::k) cs w) :
  FL l Stop a (.code B9::.inLoop B9::.inBlock 0::.code G5::k) cs w:=by
 unfold B9;refine Br.b8 ?_;refine Br.b8 ?_;refine g9 (ops:=n6 11) (n:=11) (il:=[0,1,2,3,4,5,6,7]) (by kernel_rfl) ?_;refine ns 1 hA rfl (λa hA=>?_);refine nop (v:=.bool false) (op:=.binOp .lss 3 (.tmp 64) (.const (.int .i64 4)) 3) hA rfl rfl rfl rfl rfl rfl rfl (λo hop d=>by have z0:¬ (i:Int)<4:=(by omega);unfold execOp;simp only [hop,hA.g 64 rfl];go_simp) (λa hA=>?_);refine ns 6 hA rfl (λa hA=>?_);refine Br.a9 ?_;refine Br.t7 (t:=false) (hA.get rfl) ?_;refine Br.a0e (k':=.code G5::k) (by rfl) ?_;exact hn a (hA.cut ⟨rfl,rfl,rfl,rfl,rfl,rfl,rfl,rfl,rfl,trivial⟩)
theorem c1D {l:List OpD}{Stop:Goroutine->World->Prop}{w:World}{vw vf vc vk vl:Value}{pa:Option Addr}{pl pc had i cB:Nat}(hi:i<4)(hl:pl<=i){a:Act}(hA:Lvs 418 [(1,.slice pa pl pc),(2,vw),(3,vf),(4,vc),(5,.pointer (some ⟨cB,0,none⟩)),(12,vk),(14,vl),(15,.int .i64 had),(16,.int .i64 i)] a)(k:List Item)(cs:List Frame)
  (hn:∀ a',Lvs 418 [(1,.slice pa pl pc),(2,vw),(3,vf),(4,vc),(5,.pointer (some ⟨cB,0,none⟩)),(12,vk),(14,vl),(15,.int .i64 had),(16,.int .i64 i)] a'->FL l Stop a' (.code G5::k) cs w) :
  FL l Stop a (.code B9::.inLoop B9::.inBlock 0::.code G5::k) cs w:=by
 unfold B9;refine Br.b8 ?_;refine Br.b8 ?_;refine g9 (ops:=n6 11) (n:=11) (il:=[0,1,2,3,4,5,6,7]) (by kernel_rfl) ?_;refine ns 1 hA rfl (λa hA=>?_);refine nop (v:=.bool true) (op:=.binOp .lss 3 (.tmp 64) (.const (.int .i64 4)) 3) hA rfl rfl rfl rfl rfl rfl rfl (λo hop d=>by have z0:(i:Int)<4:=(by omega);unfold execOp;simp only [hop,hA.g 64 rfl];go_simp) (λa hA=>?_);refine ns 3 hA rfl (λa hA=>?_);refine nlg hA rfl rfl rfl rfl rfl rfl rfl Tryd.underlying23 rfl rfl rfl rfl (λa hA=>?_);refine v6 (v:=.bool false) (op:=.binOp .lss 3 (.tmp 67) (.tmp 69) 3) hA rfl rfl rfl rfl rfl rfl rfl rfl rfl rfl rfl (λo hop d=>by have z0:¬ (i:Int)<(pl:Int):=(by omega);unfold execOp;simp only [hop,hA.g 67 rfl,hA.g 69 rfl];go_simp) (λa hA=>?_);refine ns 1 hA rfl (λa hA=>?_);refine Br.a9 ?_;refine Br.t7 (t:=false) (hA.get rfl) ?_;refine Br.a0e (k':=.code G5::k) (by rfl) ?_;exact hn a (hA.cut ⟨rfl,rfl,rfl,rfl,rfl,rfl,rfl,rfl,rfl,trivial⟩)
theorem b6r {l:List OpD}{Stop:Goroutine->World->Prop}{w:World}{vw vf vc vk vl:Value}{pa:Option Addr}{pl pc had i cB:Nat}(hi:i<4)(hl:i<pl){a:Act}(hA:Lvs 418 [(1,.slice pa pl pc),(2,vw),(3,vf),(4,vc),(5,.pointer (some ⟨cB,0,none⟩)),(12,vk),(14,vl),(15,.int .i64 had),(16,.int .i64 i)] a)(k:List Item)(cs:List Frame)
  (hn:∀ a',Lvs 418 [(1,.slice pa pl pc),(2,vw),(3,vf),(4,vc),(5,.pointer (some ⟨cB,0,none⟩)),(12,vk),(14,vl),(15,.int .i64 had),(16,.int .i64 i)] a'->FL l Stop a' (.code (.seq (rf 13) (.cond (.tmp 84) a1D .skip))::.inBlock 1::.code (rf 12)::.inLoop B9::.inBlock 0::.code G5::k) cs w) :
  FL l Stop a (.code B9::.inLoop B9::.inBlock 0::.code G5::k) cs w:=by
 have i1:(i:Int)<(pl:Int):=by omega
 have i2:(i:Int)<4:=by omega
 unfold B9;refine Br.b8 ?_;refine Br.b8 ?_;refine g9 (ops:=n6 11) (n:=11) (il:=[0,1,2,3,4,5,6,7]) (by kernel_rfl) ?_;refine ns 1 hA rfl (λa hA=>?_);refine nop (v:=.bool true) (op:=.binOp .lss 3 (.tmp 64) (.const (.int .i64 4)) 3) hA rfl rfl rfl rfl rfl rfl rfl (λo hop d=>by unfold execOp;simp only [hop,hA.g 64 rfl];go_simp) (λa hA=>?_);refine ns 3 hA rfl (λa hA=>?_);refine nlg hA rfl rfl rfl rfl rfl rfl rfl Tryd.underlying23 rfl rfl rfl rfl (λa hA=>?_);refine v6 (v:=.bool true) (op:=.binOp .lss 3 (.tmp 67) (.tmp 69) 3) hA rfl rfl rfl rfl rfl rfl rfl rfl rfl rfl rfl (λo hop d=>by unfold execOp;simp only [hop,hA.g 67 rfl,hA.g 69 rfl];go_simp) (λa hA=>?_);refine ns 1 hA rfl (λa hA=>?_);refine Br.a9 ?_;refine Br.t7 (t:=true) (hA.get rfl) ?_;refine Br.l9 ?_;refine Br.b8 ?_;refine Br.N7 ?_;exact hn a (hA.cut ⟨rfl,rfl,rfl,rfl,rfl,rfl,rfl,rfl,rfl,trivial⟩)
theorem c1E {l:List OpD}{Stop:Goroutine->World->Prop}{w:World}{vw vf vc vk vl:Value}{pg po pl pc had i cB nF:Nat}{nS nD:Int}(hl:i<pl)(hh:had<=4)  (hX:w.heap[cB]?=some (.cells #[.int .i64 nF,.int .i64 nS,.int .i64 nD] 30 (0,0)))(hy:w.cell? ⟨pg,po+i,none⟩=some (.bool false)){a:Act}(hA:Lvs 418 [(1,.slice (some ⟨pg,po,none⟩) pl pc),(2,vw),(3,vf),(4,vc),(5,.pointer (some ⟨cB,0,none⟩)),(12,vk),(14,vl),(15,.int .i64 had),(16,.int .i64 i)] a)(k:List Item)(cs:List Frame)
  (hn:∀ a',Lvs 418 [(1,.slice (some ⟨pg,po,none⟩) pl pc),(2,vw),(3,vf),(4,vc),(5,.pointer (some ⟨cB,0,none⟩)),(12,vk),(14,vl),(15,.int .i64 had),(16,.int .i64 i)] a'->FL l Stop a' (.inBlock 1::.code (rf 12)::.inLoop B9::.inBlock 0::.code G5::k) cs w) :
  FL l Stop a (.code (.seq (rf 13) (.cond (.tmp 84) a1D .skip))::.inBlock 1::.code (rf 12)::.inLoop B9::.inBlock 0::.code G5::k) cs w:=by
 have i0:(0:Int)<=(i:Int):=by omega
 have i1:(i:Int)<(pl:Int):=by omega
 have cf:∀ d,(w.at d).cell? ⟨cB,0,none⟩=some (.int .i64 nF):=λd=>by show w.cell? _=_;simp [World.cell?,hX]
 refine Br.b8 ?_;refine g9 (ops:=n6 13) (n:=13) (il:=[0,1,2,3,4,5,6,7,8,9,10]) (by kernel_rfl) ?_;refine ns 2 hA rfl (λa hA=>?_);refine nop (v:=.pointer (some ⟨pg,po+i,none⟩)) (op:=.indexAddr 23 (.tmp 74) (.tmp 75)) hA rfl rfl rfl rfl rfl rfl rfl (λo hop d=>by unfold execOp;simp only [hop,hA.g 74 rfl,hA.g 75 rfl];go_simp) (λa hA=>?_);refine nop (v:=.bool false) (op:=.load 4 (.tmp 76)) hA rfl rfl rfl rfl rfl rfl rfl (λo hop d=>by have z0:(w.at d).cell? ⟨pg,po+i,none⟩=some (.bool false):=hy;unfold execOp;simp only [hop,hA.g 76 rfl];go_simp) (λa hA=>?_);refine ns 7 hA rfl (λa hA=>?_);refine Br.a9 ?_;refine Br.t7 (t:=false) (hA.get rfl) ?_;refine Br.l9 ?_;exact hn a (hA.cut ⟨rfl,rfl,rfl,rfl,rfl,rfl,rfl,rfl,rfl,trivial⟩)
theorem c1F {l:List OpD}{Stop:Goroutine->World->Prop}{w:World}{vw vf vc vk vl:Value}{pg po pl pc had i cB nF:Nat}{nS nD:Int}(hl:i<pl)(hh:had<=4)(hf:nF<=had+2)(hX:w.heap[cB]?=some (.cells #[.int .i64 nF,.int .i64 nS,.int .i64 nD] 30 (0,0)))(hy:w.cell? ⟨pg,po+i,none⟩=some (.bool true)){a:Act}(hA:Lvs 418 [(1,.slice (some ⟨pg,po,none⟩) pl pc),(2,vw),(3,vf),(4,vc),(5,.pointer (some ⟨cB,0,none⟩)),(12,vk),(14,vl),(15,.int .i64 had),(16,.int .i64 i)] a)(k:List Item)(cs:List Frame)
  (hn:∀ a',Lvs 418 [(1,.slice (some ⟨pg,po,none⟩) pl pc),(2,vw),(3,vf),(4,vc),(5,.pointer (some ⟨cB,0,none⟩)),(12,vk),(14,vl),(15,.int .i64 had),(16,.int .i64 i)] a'->FL l Stop a' (.inBlock 1::.code (rf 12)::.inLoop B9::.inBlock 0::.code G5::k) cs w) :
  FL l Stop a (.code (.seq (rf 13) (.cond (.tmp 84) a1D .skip))::.inBlock 1::.code (rf 12)::.inLoop B9::.inBlock 0::.code G5::k) cs w:=by
 have i0:(0:Int)<=(i:Int):=by omega
 have i1:(i:Int)<(pl:Int):=by omega
 have cf:∀ d,(w.at d).cell? ⟨cB,0,none⟩=some (.int .i64 nF):=λd=>by show w.cell? _=_;simp [World.cell?,hX]
 refine Br.b8 ?_;refine g9 (ops:=n6 13) (n:=13) (il:=[0,1,2,3,4,5,6,7,8,9,10]) (by kernel_rfl) ?_;refine ns 2 hA rfl (λa hA=>?_);refine nop (v:=.pointer (some ⟨pg,po+i,none⟩)) (op:=.indexAddr 23 (.tmp 74) (.tmp 75)) hA rfl rfl rfl rfl rfl rfl rfl (λo hop d=>by unfold execOp;simp only [hop,hA.g 74 rfl,hA.g 75 rfl];go_simp) (λa hA=>?_);refine nop (v:=.bool true) (op:=.load 4 (.tmp 76)) hA rfl rfl rfl rfl rfl rfl rfl (λo hop d=>by have z0:(w.at d).cell? ⟨pg,po+i,none⟩=some (.bool true):=hy;unfold execOp;simp only [hop,hA.g 76 rfl];go_simp) (λa hA=>?_);refine ns 2 hA rfl (λa hA=>?_);refine v6 (v:=.int .i64 (((had+2:Nat):Int))) (op:=.binOp .add 3 (.tmp 79) (.const (.int .i64 2)) 3) hA rfl rfl rfl rfl rfl rfl rfl rfl rfl rfl rfl (λo hop d=>by have z0:IntKind.i64.wrap ((had:Int)+2)=((had+2:Nat):Int):=(by rw [IntKind.wrap_i64];omega);unfold execOp;simp only [hop,hA.g 79 rfl];go_simp) (λa hA=>?_);refine v6 (v:=.pointer (some ⟨cB,0,none⟩)) (op:=.fieldAddr 30 (.tmp 5) 0) hA rfl rfl rfl rfl rfl rfl rfl rfl rfl rfl rfl (λo hop d=>by unfold execOp;simp only [hop,hA.g 5 rfl];go_simp) (λa hA=>?_);refine v6 (v:=.int .i64 nF) (op:=.load 3 (.tmp 81)) hA rfl rfl rfl rfl rfl rfl rfl rfl rfl rfl rfl (λo hop d=>by have z0:=cf d;unfold execOp;simp only [hop,hA.g 81 rfl];go_simp) (λa hA=>?_);refine v6 (v:=.bool false) (op:=.binOp .lss 3 (.tmp 80) (.tmp 82) 3) hA rfl rfl rfl rfl rfl rfl rfl rfl rfl rfl rfl (λo hop d=>by have z0:¬ ((had:Int)+2<(nF:Int)):=(by omega);unfold execOp;simp only [hop,hA.g 80 rfl,hA.g 82 rfl];go_simp) (λa hA=>?_);refine ns 1 hA rfl (λa hA=>?_);refine Br.a9 ?_;refine Br.t7 (t:=false) (hA.get rfl) ?_;refine Br.l9 ?_;exact hn a (hA.cut ⟨rfl,rfl,rfl,rfl,rfl,rfl,rfl,rfl,rfl,trivial⟩)
theorem c1G {l:List OpD}{Stop:Goroutine->World->Prop}{w:World}{vw vf vc vk vl:Value}{pg po pl pc had i cB nF:Nat}{nS nD:Int}(hl:i<pl)(hh:had<=4)(hf:had+2<nF)(hX:w.heap[cB]?=some (.cells #[.int .i64 nF,.int .i64 nS,.int .i64 nD] 30 (0,0)))(hy:w.cell? ⟨pg,po+i,none⟩=some (.bool true)){a:Act}(hA:Lvs 418 [(1,.slice (some ⟨pg,po,none⟩) pl pc),(2,vw),(3,vf),(4,vc),(5,.pointer (some ⟨cB,0,none⟩)),(12,vk),(14,vl),(15,.int .i64 had),(16,.int .i64 i)] a)(k:List Item)(cs:List Frame)
  (hn:∀ a',Lvs 418 [(1,.slice (some ⟨pg,po,none⟩) pl pc),(2,vw),(3,vf),(4,vc),(5,.pointer (some ⟨cB,0,none⟩)),(12,vk),(14,vl),(15,.int .i64 had),(16,.int .i64 i)] a'->FL l Stop a' (.code a1D::.inBlock 1::.code (rf 12)::.inLoop B9::.inBlock 0::.code G5::k) cs w) :
  FL l Stop a (.code (.seq (rf 13) (.cond (.tmp 84) a1D .skip))::.inBlock 1::.code (rf 12)::.inLoop B9::.inBlock 0::.code G5::k) cs w:=by
 have i0:(0:Int)<=(i:Int):=by omega
 have i1:(i:Int)<(pl:Int):=by omega
 have cf:∀ d,(w.at d).cell? ⟨cB,0,none⟩=some (.int .i64 nF):=λd=>by show w.cell? _=_;simp [World.cell?,hX]
 refine Br.b8 ?_;refine g9 (ops:=n6 13) (n:=13) (il:=[0,1,2,3,4,5,6,7,8,9,10]) (by kernel_rfl) ?_;refine ns 2 hA rfl (λa hA=>?_);refine nop (v:=.pointer (some ⟨pg,po+i,none⟩)) (op:=.indexAddr 23 (.tmp 74) (.tmp 75)) hA rfl rfl rfl rfl rfl rfl rfl (λo hop d=>by unfold execOp;simp only [hop,hA.g 74 rfl,hA.g 75 rfl];go_simp) (λa hA=>?_);refine nop (v:=.bool true) (op:=.load 4 (.tmp 76)) hA rfl rfl rfl rfl rfl rfl rfl (λo hop d=>by have z0:(w.at d).cell? ⟨pg,po+i,none⟩=some (.bool true):=hy;unfold execOp;simp only [hop,hA.g 76 rfl];go_simp) (λa hA=>?_);refine ns 2 hA rfl (λa hA=>?_);refine v6 (v:=.int .i64 (((had+2:Nat):Int))) (op:=.binOp .add 3 (.tmp 79) (.const (.int .i64 2)) 3) hA rfl rfl rfl rfl rfl rfl rfl rfl rfl rfl rfl (λo hop d=>by have z0:IntKind.i64.wrap ((had:Int)+2)=((had+2:Nat):Int):=(by rw [IntKind.wrap_i64];omega);unfold execOp;simp only [hop,hA.g 79 rfl];go_simp) (λa hA=>?_);refine v6 (v:=.pointer (some ⟨cB,0,none⟩)) (op:=.fieldAddr 30 (.tmp 5) 0) hA rfl rfl rfl rfl rfl rfl rfl rfl rfl rfl rfl (λo hop d=>by unfold execOp;simp only [hop,hA.g 5 rfl];go_simp) (λa hA=>?_);refine v6 (v:=.int .i64 nF) (op:=.load 3 (.tmp 81)) hA rfl rfl rfl rfl rfl rfl rfl rfl rfl rfl rfl (λo hop d=>by have z0:=cf d;unfold execOp;simp only [hop,hA.g 81 rfl];go_simp) (λa hA=>?_);refine v6 (v:=.bool true) (op:=.binOp .lss 3 (.tmp 80) (.tmp 82) 3) hA rfl rfl rfl rfl rfl rfl rfl rfl rfl rfl rfl (λo hop d=>by have z0:((had:Int)+2<(nF:Int)):=(by omega);unfold execOp;simp only [hop,hA.g 80 rfl,hA.g 82 rfl];go_simp) (λa hA=>?_);refine ns 1 hA rfl (λa hA=>?_);refine Br.a9 ?_;refine Br.t7 (t:=true) (hA.get rfl) ?_;exact hn a (hA.cut ⟨rfl,rfl,rfl,rfl,rfl,rfl,rfl,rfl,rfl,trivial⟩)
theorem c1H {l:List OpD}{Stop:Goroutine->World->Prop}{w:World}{vw vf vc vk vl:Value}{pa:Option Addr}{pl pc had i cB:Nat}(hi:i<100){a:Act}(hA:Lvs 418 [(1,.slice pa pl pc),(2,vw),(3,vf),(4,vc),(5,.pointer (some ⟨cB,0,none⟩)),(12,vk),(14,vl),(15,.int .i64 had),(16,.int .i64 i)] a)(k:List Item)(cs:List Frame)
  (hn:∀ a',Lvs 418 [(1,.slice pa pl pc),(2,vw),(3,vf),(4,vc),(5,.pointer (some ⟨cB,0,none⟩)),(12,vk),(14,vl),(15,.int .i64 had),(16,.int .i64 (((i+1:Nat):Int)))] a'->FL l Stop a' (.code B9::.inLoop B9::.inBlock 0::.code G5::k) cs w) :
  FL l Stop a (.inBlock 1::.code (rf 12)::.inLoop B9::.inBlock 0::.code G5::k) cs w:=by
 refine Br.U3 ?_;refine g9 (ops:=n6 12) (n:=12) (il:=[0,1,2]) (by kernel_rfl) ?_;refine ns 1 hA rfl (λa hA=>?_);refine nop (v:=.int .i64 (((i+1:Nat):Int))) (op:=.binOp .add 3 (.tmp 72) (.const (.int .i64 1)) 3) hA rfl rfl rfl rfl rfl rfl rfl (λo hop d=>by have z0:IntKind.i64.wrap ((i:Int)+1)=((i+1:Nat):Int):=(by rw [IntKind.wrap_i64];omega);unfold execOp;simp only [hop,hA.g 72 rfl];go_simp) (λa hA=>?_);refine wt (v:=.int .i64 (((i+1:Nat):Int))) hA rfl rfl rfl (hA.get rfl) rfl rfl (λa hA=>?_);refine Br.a9 ?_;refine Br.X3 ?_;exact hn a (hA.cut ⟨rfl,rfl,rfl,rfl,rfl,rfl,rfl,rfl,rfl,trivial⟩)
end Go.Proofs.YtcgabodkegcpgaaDoor
