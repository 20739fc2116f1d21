/- wait: the region that tells of a child. -/
import Derived.Test.YtcgabodkegcpgaaDoorOqh
set_option linter.unusedVariables false
set_option linter.unusedSimpArgs false
set_option maxHeartbeats 20000000
set_option maxRecDepth 100000
namespace Go.Proofs.YtcgabodkegcpgaaDoor
open Go.Conc Go.RowKit
open Br (OpD KO SO SP sfO Lk Fit Must DL Liv Clear)
section
variable {C:Ctx} {n:Nat} {s:q7} {pv:List Nat} {H:w9} {free:Value} {go:Bool}
def a2x (o:OpD)(i:Nat)(sv ps fs tu x e:Value):Nat->Value
 | 0=>pO o|1=>.int .i64 i|2=>sv|3=>ps|4=>sv|5=>fs|6=>tu|7=>x|8=>e|9=>x|10=>e|_=>undef
theorem a0a {ops:Array Oper}{i:Nat}{o:Oper}{a:Act}{b:Frame}{rest:List Nat}{k:List Item}{cs:List Frame}{V:Nat->Value}{base:Array Value}{listed:Array Bool}{v:Value}(hA:Br.Agr ops V base listed a)(h1:Br.a0R ops=true)(ho:ops[i]?=some o)(hg:o.guard=none)(hk:b.kind≠.early)(hop:Br.Y6 Tryd.prog (λ_=>false) [] false o.op=true)
  (hV:V i=v)(hv:∀ l K un w d,Sta C l K pv H free un go w->(execOp a.eval o).run Tryd.prog (w.at d)=.ok (.value v) (w.at d))
  (hIH:∀ a',Br.Agr ops V base (listed.setIfInBounds i true) a'->o9 C n s pv H free go (G (b.at a' (.inRegion ops rest::k)) cs)):o9 C n s pv H free go (G (b.at a (.inRegion ops (i::rest)::k)) cs) :=
 a8g ho hg hk hop hv (hIH _ (hA.put h1 ho hV))
theorem a3B {ops:Array Oper}{i:Nat}{o:Oper}{a:Act}{b:Frame}{rest:List Nat}{k:List Item}{cs:List Frame}{V:Nat->Value}{base:Array Value}{listed:Array Bool}{ty:TypeId}{x:Operand}{b0:Nat}{c:Array Value}{t:TypeId}{f:Nat × Nat}{ms:List Value}{d0:TypeDesc}(hA:Br.Agr ops V base listed a)(h1:Br.a0R ops=true)(ho:ops[i]?=some o)(hg:o.guard=none)(hk:b.kind≠.early)(hop:o.op=.load ty x)
  (hx:a.eval x=.pointer (some ⟨b0,0,none⟩))(hb:b0∈pv)(hH:H b0=.cells c t f)(hms:∀ (j:Nat) (v:Value),ms[j]?=some v->c[j]?=some v)(hu:Tryd.prog.underlying ty=some d0)(hd:d0.isRow=true)(hi:(Tryd.prog.info? ty).map (·.size)=some ms.length)(hV:V i=.agg ms.toArray)
  (hIH:∀ a',Br.Agr ops V base (listed.setIfInBounds i true) a'->o9 C n s pv H free go (G (b.at a' (.inRegion ops rest::k)) cs)):o9 C n s pv H free go (G (b.at a (.inRegion ops (i::rest)::k)) cs) :=
 M8 ho hg hk hop hx hb hH hms hu hd hi (hIH _ (hA.put h1 ho hV))
theorem F7:Br.a0R u8=true:=by kernel_rfl
theorem w8 {P:Program}{o:Oper}{a:Act}{x:Operand}{v:Value}{w:World}(hop:o.op=.move x)(hx:a.eval x=v):(execOp a.eval o).run P w=.ok (.value v) w:=by
 unfold execOp;simp only [hop,hx];rfl
theorem P6 {P:Program}{o:Oper}{a:Act}{x:Operand}{v:Value}{w:World}(hop:o.op=.assign x)(hx:a.eval x=v):(execOp a.eval o).run P w=.ok (.value v) w:=by
 unfold execOp;simp only [hop,hx];rfl
theorem U4 {P:Program}{o:Oper}{a:Act}{x:Operand}{i:Nat}{vs:Array Value}{v:Value}{w:World}(hop:o.op=.extract x i)(hx:a.eval x=.tuple vs)(hv:vs[i]?=some v):(execOp a.eval o).run P w=.ok (.value v) w:=by
 unfold execOp;simp only [hop,hx,hv];go_simp
theorem b7e {bx i:Nat}{tb:Array Value}(h40:tb.size=40)(b0:tb[0]?=some (pO C.o))(b6:tb[6]?=some (.int .i64 i))(b7:tb[7]?=some (.pointer (some ⟨bx,0,none⟩)))(sv pv' fv:Value)(x e:Int)(fr:Frame)(cs:List Frame)(k0:List Item)(hn:o9 C n s pv H free go (G (fr.finish (.tuple #[.int .i64 x,.int .i64 e])) cs)) :
  ∀ fuel listed a rest,Br.Ord u8 fuel listed rest->(Br.Agr u8 (a2x C.o i sv pv' fv (.tuple #[.int .i64 x,.int .i64 e]) (.int .i64 x) (.int .i64 e)) tb listed a/\∀ j,j<=6->listed.getD j false=true)->o9 C n s pv H free go (G ((base 80).at a (.inRegion u8 rest::.code .ret::k0)) (fr::cs)):=by
 refine Br.a1M (λf listed a q rest hi hA2 hO hIH=>?_) (λlisted a hr hA2=>?_)
 ·obtain ⟨hA,hL⟩:=hA2;have hIH':∀ a',Br.Agr u8 (a2x C.o i sv pv' fv (.tuple #[.int .i64 x,.int .i64 e]) (.int .i64 x) (.int .i64 e)) tb (listed.setIfInBounds q true) a'->o9 C n s pv H free go (G ((base 80).at a' (.inRegion u8 rest::.code .ret::k0)) (fr::cs)):=λa' h=>hIH a' ⟨h,λj hj=>Br.C0 (hL j hj)⟩;have hlt:=Br.G8 hi;have hz:u8.size=11:=by kernel_rfl
  rw [hz] at hlt;have hcs:q=0\/q=1\/q=2\/q=3\/q=4\/q=5\/q=6\/q=7\/q=8\/q=9\/q=10:=by omega
  rcases hcs with rfl|rfl|rfl|rfl|rfl|rfl|rfl|rfl|rfl|rfl|rfl
  ·exact (Br.v9 hi (hL 0 (by omega))).elim
  ·exact (Br.v9 hi (hL 1 (by omega))).elim
  ·exact (Br.v9 hi (hL 2 (by omega))).elim
  ·exact (Br.v9 hi (hL 3 (by omega))).elim
  ·exact (Br.v9 hi (hL 4 (by omega))).elim
  ·exact (Br.v9 hi (hL 5 (by omega))).elim
  ·exact (Br.v9 hi (hL 6 (by omega))).elim
  ·obtain ⟨o,ho,hop,hg⟩:∃ o,u8[7]?=some o/\o.op=.extract (.tmp 34) 0/\o.guard=none:=⟨_,rfl,rfl,rfl⟩;have e34:a.eval (.tmp 34)=.tuple #[.int .i64 x,.int .i64 e]:=hA.tmp (j:=6) rfl rfl (Br.f9 hi rfl (by kernel_rfl)) (by omega) rfl;exact a0a hA F7 ho hg (by decide) (by rw [hop];rfl) (v:=.int .i64 x) rfl (λl K un w d St=>U4 hop e34 rfl) hIH'
  ·obtain ⟨o,ho,hop,hg⟩:∃ o,u8[8]?=some o/\o.op=.extract (.tmp 34) 1/\o.guard=none:=⟨_,rfl,rfl,rfl⟩;have e34:a.eval (.tmp 34)=.tuple #[.int .i64 x,.int .i64 e]:=hA.tmp (j:=6) rfl rfl (Br.f9 hi rfl (by kernel_rfl)) (by omega) rfl;exact a0a hA F7 ho hg (by decide) (by rw [hop];rfl) (v:=.int .i64 e) rfl (λl K un w d St=>U4 hop e34 rfl) hIH'
  ·obtain ⟨o,ho,hop,hg⟩:∃ o,u8[9]?=some o/\o.op=.assign (.tmp 35)/\o.guard=none:=⟨_,rfl,rfl,rfl⟩;have e35:a.eval (.tmp 35)=.int .i64 x:=hA.tmp (j:=7) rfl rfl (Br.f9 hi rfl (by kernel_rfl)) (by omega) rfl;exact a0a hA F7 ho hg (by decide) (by rw [hop];rfl) (v:=.int .i64 x) rfl (λl K un w d St=>P6 hop e35) hIH'
  ·obtain ⟨o,ho,hop,hg⟩:∃ o,u8[10]?=some o/\o.op=.assign (.tmp 36)/\o.guard=none:=⟨_,rfl,rfl,rfl⟩;have e36:a.eval (.tmp 36)=.int .i64 e:=hA.tmp (j:=8) rfl rfl (Br.f9 hi rfl (by kernel_rfl)) (by omega) rfl;exact a0a hA F7 ho hg (by decide) (by rw [hop];rfl) (v:=.int .i64 e) rfl (λl K un w d St=>P6 hop e36) hIH'
 ·obtain ⟨hA,hL⟩:=hA2;have hall:=Br.G9 (by kernel_rfl) hA.len hr;have e4:a.eval (.tmp 4)=.int .i64 x:=hA.tmp (j:=9) rfl rfl (hall 9 (by show 9<11;omega)) (by omega) rfl;have e5:a.eval (.tmp 5)=.int .i64 e:=hA.tmp (j:=10) rfl rfl (hall 10 (by show 10<11;omega)) (by omega) rfl;have hres:ResultsC Tryd.prog Tryd.f80 a.tmps (.tuple #[.int .i64 x,.int .i64 e]):=by
   have:=resultsC_tmp2 (P:=Tryd.prog) (fn:=Tryd.f80) (t:=4) (u:=5) rfl a.tmps
   rwa [show a.tmps.getD 4 undef=.int .i64 x from e4,show a.tmps.getD 5 undef=.int .i64 e from e5] at this
  apply d7
  ·intro l K un w Stop St hd d;have hc:=St.clear;refine Br.a9 (λd=>?_) _;refine Br.q8 (λd=>?_) _;exact Br.m8 (v:=.tuple #[.int .i64 x,.int .i64 e]) rfl hA.defs Tryd.func80 hres hd _
   done
  exact hn
theorem b7f {bx i:Nat}{tb:Array Value}(h40:tb.size=40)(b0:tb[0]?=some (pO C.o))(b6:tb[6]?=some (.int .i64 i))(b7:tb[7]?=some (.pointer (some ⟨bx,0,none⟩))){K0:Ker}(ps fs:Sl)(hps:ps.ok pv H)(hfs:fs.ok pv H)(fr:Frame)(cs:List Frame)(k0:List Item)(k:Int × Int->Bool->q7)
  (hs:s=(a1J i ps.xs fs.xs).then go k)(hn:∀ x e go' H',o9 C n (k (x,e) go') [] H' free go' (G (fr.finish (.tuple #[.int .i64 x,.int .i64 e])) cs)) :
  ∀ fuel listed a rest,Br.Ord u8 fuel listed rest->(Br.Agr u8 (a2x C.o i (.agg (V7 K0 i)) ps.val fs.val undef undef undef) tb listed a/\(∀ j,2<=j->j<=5->listed.getD j false=true)/\∀ j,6<=j->listed.getD j false=false)->o9 C n s pv H free go (G ((base 80).at a (.inRegion u8 rest::.code .ret::k0)) (fr::cs)):=by
 refine Br.a1M (λf0 listed a q rest hi hA2 hO hIH=>?_) (λlisted a hr hA2=>?_)
 ·obtain ⟨hA,hL,hoff⟩:=hA2;have hIH':q<=4->q≠3->∀ a',Br.Agr u8 (a2x C.o i (.agg (V7 K0 i)) ps.val fs.val undef undef undef) tb (listed.setIfInBounds q true) a'->o9 C n s pv H free go (G ((base 80).at a' (.inRegion u8 rest::.code .ret::k0)) (fr::cs)):=λhq hq3 a' h=>hIH a' ⟨h,λj h1 h2=>Br.C0 (hL j h1 h2),λj hj=>Br.a1N (hoff j hj) (by omega)⟩;have hlt:=Br.G8 hi;have hz:u8.size=11:=by kernel_rfl
  rw [hz] at hlt;have hcs:q=0\/q=1\/q=2\/q=3\/q=4\/q=5\/q=6\/q=7\/q=8\/q=9\/q=10:=by omega
  rcases hcs with rfl|rfl|rfl|rfl|rfl|rfl|rfl|rfl|rfl|rfl|rfl
  ·obtain ⟨o,ho,hop,hg⟩:∃ o,u8[0]?=some o/\o.op=.move (.tmp 0)/\o.guard=none:=⟨_,rfl,rfl,rfl⟩;have e0:a.eval (.tmp 0)=pO C.o:=hA.base (by kernel_rfl) b0;exact a0a hA F7 ho hg (by decide) (by rw [hop];rfl) (v:=pO C.o) rfl (λl K un w d St=>w8 hop e0) (hIH' (by omega) (by omega))
  ·obtain ⟨o,ho,hop,hg⟩:∃ o,u8[1]?=some o/\o.op=.move (.tmp 6)/\o.guard=none:=⟨_,rfl,rfl,rfl⟩;have e6:a.eval (.tmp 6)=.int .i64 i:=hA.base (by kernel_rfl) b6;exact a0a hA F7 ho hg (by decide) (by rw [hop];rfl) (v:=.int .i64 i) rfl (λl K un w d St=>w8 hop e6) (hIH' (by omega) (by omega))
  ·exact (Br.v9 hi (hL 2 (by omega) (by omega))).elim
  ·exact (Br.v9 hi (hL 3 (by omega) (by omega))).elim
  ·exact (Br.v9 hi (hL 4 (by omega) (by omega))).elim
  ·exact (Br.v9 hi (hL 5 (by omega) (by omega))).elim
  ·have e28:a.eval (.tmp 28)=pO C.o:=hA.tmp (j:=0) rfl rfl (Br.f9 hi rfl (by kernel_rfl)) (by omega) rfl;have e29:a.eval (.tmp 29)=.int .i64 i:=hA.tmp (j:=1) rfl rfl (Br.f9 hi rfl (by kernel_rfl)) (by omega) rfl;have e31:a.eval (.tmp 31)=ps.val:=hA.tmp (j:=3) rfl rfl (Br.f9 hi rfl (by kernel_rfl)) (by omega) rfl;have e33:a.eval (.tmp 33)=fs.val:=hA.tmp (j:=5) rfl rfl (Br.f9 hi rfl (by kernel_rfl)) (by omega) rfl;have l0:listed.getD 0 false=true:=Br.f9 hi rfl (by kernel_rfl);have l1:listed.getD 1 false=true:=Br.f9 hi rfl (by kernel_rfl);subst hs;refine b1B rfl (λu=>k6 rfl rfl (by decide) rfl Tryd.func92 rfl rfl (vs:=#[pO C.o,.int .i64 i,ps.val,fs.val]) (by simp [e28,e29,e31,e33]) u) ?_;refine a6B i ps fs hps hfs _ _ _ (λx e go'=>?_);obtain ⟨o,ho,hdst⟩:∃ o,u8[6]?=some o/\o.dst=some 34:=⟨_,rfl,rfl⟩
   have hA':=(hA.val (V':=a2x C.o i (.agg (V7 K0 i)) ps.val fs.val (.tuple #[.int .i64 x,.int .i64 e]) (.int .i64 x) (.int .i64 e)) (λj hj=>by
    have hj6:j<6:=by
     rcases Nat.lt_or_ge j 6 with h|h
     ·exact h
     ·rw [hoff j h] at hj;cases hj
    have hcs:j=0\/j=1\/j=2\/j=3\/j=4\/j=5:=by omega
    rcases hcs with rfl|rfl|rfl|rfl|rfl|rfl<;>first|rfl)).put F7 ho (v:=.tuple #[.int .i64 x,.int .i64 e]) rfl
   rw [Frame.finish_at,show (u8[6]?.bind λx=>x.dst)=o.dst from by rw [ho];rfl];refine b7e h40 b0 b6 b7 _ _ _ x e fr cs k0 (L9 (hn x e go' H)) _ _ _ _ hO ⟨hA',λj hj=>?_⟩;have hcs:j=0\/j=1\/(2<=j/\j<=5)\/j=6:=by omega
   rcases hcs with rfl|rfl|h|rfl
   ·exact Br.C0 l0
   ·exact Br.C0 l1
   ·exact Br.C0 (hL j h.1 h.2)
   ·exact Br.P8 hi
  ·exact (Br.B6 hi rfl (j:=6) (hoff 6 (by omega)) (by kernel_rfl)).elim
  ·exact (Br.B6 hi rfl (j:=6) (hoff 6 (by omega)) (by kernel_rfl)).elim
  ·exact (Br.B6 hi rfl (j:=6) (hoff 6 (by omega)) (by kernel_rfl)).elim
  ·exact (Br.B6 hi rfl (j:=6) (hoff 6 (by omega)) (by kernel_rfl)).elim
 ·exact absurd (Br.G9 (by kernel_rfl) hA2.1.len hr 6 (by show 6<11;omega)) (by rw [hA2.2.2 6 (by omega)];simp)
theorem b7g {bx i:Nat}{tb:Array Value}(h40:tb.size=40)(b0:tb[0]?=some (pO C.o))(b6:tb[6]?=some (.int .i64 i))(b7:tb[7]?=some (.pointer (some ⟨bx,0,none⟩))){K0:Ker}(hbx:bx∈pv){c:Array Value}{t:TypeId}{f:Nat × Nat}(hX:H bx=.cells c t f)(hms:∀ (j:Nat) (v:Value),(cut (o0 K0) (i*20) 20)[j]?=some v->c[j]?=some v)(ps:Sl)(hps:ps.ok pv H)(fr:Frame)(cs:List Frame)(k0:List Item)(k:Int × Int->Bool->q7)
  (hs:s=(a1J i ps.xs (a0Q K0 i)).then go k)(hn:∀ x e go' H',o9 C n (k (x,e) go') [] H' free go' (G (fr.finish (.tuple #[.int .i64 x,.int .i64 e])) cs)) :
  ∀ fuel listed a rest,Br.Ord u8 fuel listed rest->(Br.Agr u8 (a2x C.o i (.agg (V7 K0 i)) ps.val undef undef undef undef) tb listed a/\(∀ j,2<=j->j<=3->listed.getD j false=true)/\∀ j,5<=j->listed.getD j false=false)->o9 C n s pv H free go (G ((base 80).at a (.inRegion u8 rest::.code .ret::k0)) (fr::cs)):=by
 refine Br.a1M (λf0 listed a q rest hi hA2 hO hIH=>?_) (λlisted a hr hA2=>?_)
 ·obtain ⟨hA,hL,hoff⟩:=hA2;have hIH':q<=4->q≠3->∀ a',Br.Agr u8 (a2x C.o i (.agg (V7 K0 i)) ps.val undef undef undef undef) tb (listed.setIfInBounds q true) a'->o9 C n s pv H free go (G ((base 80).at a' (.inRegion u8 rest::.code .ret::k0)) (fr::cs)):=λhq hq3 a' h=>hIH a' ⟨h,λj h1 h2=>Br.C0 (hL j h1 h2),λj hj=>Br.a1N (hoff j hj) (by omega)⟩;have hlt:=Br.G8 hi;have hz:u8.size=11:=by kernel_rfl
  rw [hz] at hlt;have hcs:q=0\/q=1\/q=2\/q=3\/q=4\/q=5\/q=6\/q=7\/q=8\/q=9\/q=10:=by omega
  rcases hcs with rfl|rfl|rfl|rfl|rfl|rfl|rfl|rfl|rfl|rfl|rfl
  ·obtain ⟨o,ho,hop,hg⟩:∃ o,u8[0]?=some o/\o.op=.move (.tmp 0)/\o.guard=none:=⟨_,rfl,rfl,rfl⟩;have e0:a.eval (.tmp 0)=pO C.o:=hA.base (by kernel_rfl) b0;exact a0a hA F7 ho hg (by decide) (by rw [hop];rfl) (v:=pO C.o) rfl (λl K un w d St=>w8 hop e0) (hIH' (by omega) (by omega))
  ·obtain ⟨o,ho,hop,hg⟩:∃ o,u8[1]?=some o/\o.op=.move (.tmp 6)/\o.guard=none:=⟨_,rfl,rfl,rfl⟩;have e6:a.eval (.tmp 6)=.int .i64 i:=hA.base (by kernel_rfl) b6;exact a0a hA F7 ho hg (by decide) (by rw [hop];rfl) (v:=.int .i64 i) rfl (λl K un w d St=>w8 hop e6) (hIH' (by omega) (by omega))
  ·exact (Br.v9 hi (hL 2 (by omega) (by omega))).elim
  ·exact (Br.v9 hi (hL 3 (by omega) (by omega))).elim
  ·obtain ⟨o,ho,hop,hg⟩:∃ o,u8[4]?=some o/\o.op=.load 55 (.tmp 7)/\o.guard=none:=⟨_,rfl,rfl,rfl⟩;have e7:a.eval (.tmp 7)=.pointer (some ⟨bx,0,none⟩):=hA.base (by kernel_rfl) b7;exact a3B hA F7 ho hg (by decide) hop e7 hbx hX hms Tryd.underlying55 rfl (by rw [A5];kernel_rfl) (congrArg Value.agg (a2u K0 i).symm) (hIH' (by omega) (by omega))
  ·have e32:a.eval (.tmp 32)=.agg (V7 K0 i):=hA.tmp (j:=4) rfl rfl (Br.f9 hi rfl (by kernel_rfl)) (by omega) rfl;have l4:listed.getD 4 false=true:=Br.f9 hi rfl (by kernel_rfl);refine b1B rfl (λu=>k6 rfl rfl (by decide) rfl Tryd.func90 rfl rfl (vs:=#[.agg (V7 K0 i)]) (by simp [e32]) u) ?_;refine a2v (by kernel_rfl) (by have:=I8 (λj=>K0.S i (11+j*2)) 4;unfold a0Q;omega) (λv _=>a6F K0 i v) _ _ (λfs bs5 H5 hfx hfc hfb5 hfo hnew5 hkeep5=>?_);obtain ⟨o,ho,hdst⟩:∃ o,u8[5]?=some o/\o.dst=some 33:=⟨_,rfl,rfl⟩
   have hA':=(hA.val (V':=a2x C.o i (.agg (V7 K0 i)) ps.val fs.val undef undef undef) (λj hj=>by
    have hj6:j<5:=by
     rcases Nat.lt_or_ge j 5 with h|h
     ·exact h
     ·rw [hoff j h] at hj;cases hj
    have hcs:j=0\/j=1\/j=2\/j=3\/j=4:=by omega
    rcases hcs with rfl|rfl|rfl|rfl|rfl<;>first|rfl)).put F7 ho (v:=fs.val) rfl
   rw [Frame.finish_at,show (u8[5]?.bind λx=>x.dst)=o.dst from by rw [ho];rfl];refine b7f h40 b0 b6 b7 ps fs (Sl.ok_more hps (λi hi=>List.mem_append_right _ hi) hkeep5) hfo fr cs k0 k (by rw [hs,hfx]) hn _ _ _ _ hO ⟨hA',λj h1 h2=>?_,λj hj=>Br.a1N (hoff j (by omega)) (by omega)⟩;have hcs:(2<=j/\j<=3)\/j=4\/j=5:=by omega
   rcases hcs with h|rfl|rfl
   ·exact Br.C0 (hL j h.1 h.2)
   ·exact Br.C0 l4
   ·exact Br.P8 hi
  ·exact (Br.B6 hi rfl (j:=5) (hoff 5 (by omega)) (by kernel_rfl)).elim
  ·exact (Br.B6 hi rfl (j:=6) (hoff 6 (by omega)) (by kernel_rfl)).elim
  ·exact (Br.B6 hi rfl (j:=6) (hoff 6 (by omega)) (by kernel_rfl)).elim
  ·exact (Br.B6 hi rfl (j:=6) (hoff 6 (by omega)) (by kernel_rfl)).elim
  ·exact (Br.B6 hi rfl (j:=6) (hoff 6 (by omega)) (by kernel_rfl)).elim
 ·exact absurd (Br.G9 (by kernel_rfl) hA2.1.len hr 6 (by show 6<11;omega)) (by rw [hA2.2.2 6 (by omega)];simp)
theorem b7h {bx i:Nat}{tb:Array Value}(h40:tb.size=40)(b0:tb[0]?=some (pO C.o))(b6:tb[6]?=some (.int .i64 i))(b7:tb[7]?=some (.pointer (some ⟨bx,0,none⟩))){K0:Ker}(hbx:bx∈pv){c:Array Value}{t:TypeId}{f:Nat × Nat}(hX:H bx=.cells c t f)(hms:∀ (j:Nat) (v:Value),(cut (o0 K0) (i*20) 20)[j]?=some v->c[j]?=some v)(fr:Frame)(cs:List Frame)(k0:List Item)(k:Int × Int->Bool->q7)
  (hs:s=(a1J i (a1j K0 i) (a0Q K0 i)).then go k)(hn:∀ x e go' H',o9 C n (k (x,e) go') [] H' free go' (G (fr.finish (.tuple #[.int .i64 x,.int .i64 e])) cs)) :
  ∀ fuel listed a rest,Br.Ord u8 fuel listed rest->(Br.Agr u8 (a2x C.o i (.agg (V7 K0 i)) undef undef undef undef undef) tb listed a/\listed.getD 3 false=false/\∀ j,5<=j->listed.getD j false=false)->o9 C n s pv H free go (G ((base 80).at a (.inRegion u8 rest::.code .ret::k0)) (fr::cs)):=by
 refine Br.a1M (λf0 listed a q rest hi hA2 hO hIH=>?_) (λlisted a hr hA2=>?_)
 ·obtain ⟨hA,h3,hoff⟩:=hA2;have hIH':q<=4->q≠3->∀ a',Br.Agr u8 (a2x C.o i (.agg (V7 K0 i)) undef undef undef undef undef) tb (listed.setIfInBounds q true) a'->o9 C n s pv H free go (G ((base 80).at a' (.inRegion u8 rest::.code .ret::k0)) (fr::cs)):=λhq hq3 a' h=>hIH a' ⟨h,Br.a1N h3 (by omega),λj hj=>Br.a1N (hoff j hj) (by omega)⟩;have hlt:=Br.G8 hi;have hz:u8.size=11:=by kernel_rfl
  rw [hz] at hlt;have hcs:q=0\/q=1\/q=2\/q=3\/q=4\/q=5\/q=6\/q=7\/q=8\/q=9\/q=10:=by omega
  rcases hcs with rfl|rfl|rfl|rfl|rfl|rfl|rfl|rfl|rfl|rfl|rfl
  ·obtain ⟨o,ho,hop,hg⟩:∃ o,u8[0]?=some o/\o.op=.move (.tmp 0)/\o.guard=none:=⟨_,rfl,rfl,rfl⟩;have e0:a.eval (.tmp 0)=pO C.o:=hA.base (by kernel_rfl) b0;exact a0a hA F7 ho hg (by decide) (by rw [hop];rfl) (v:=pO C.o) rfl (λl K un w d St=>w8 hop e0) (hIH' (by omega) (by omega))
  ·obtain ⟨o,ho,hop,hg⟩:∃ o,u8[1]?=some o/\o.op=.move (.tmp 6)/\o.guard=none:=⟨_,rfl,rfl,rfl⟩;have e6:a.eval (.tmp 6)=.int .i64 i:=hA.base (by kernel_rfl) b6;exact a0a hA F7 ho hg (by decide) (by rw [hop];rfl) (v:=.int .i64 i) rfl (λl K un w d St=>w8 hop e6) (hIH' (by omega) (by omega))
  ·obtain ⟨o,ho,hop,hg⟩:∃ o,u8[2]?=some o/\o.op=.load 55 (.tmp 7)/\o.guard=none:=⟨_,rfl,rfl,rfl⟩;have e7:a.eval (.tmp 7)=.pointer (some ⟨bx,0,none⟩):=hA.base (by kernel_rfl) b7;exact a3B hA F7 ho hg (by decide) hop e7 hbx hX hms Tryd.underlying55 rfl (by rw [A5];kernel_rfl) (congrArg Value.agg (a2u K0 i).symm) (hIH' (by omega) (by omega))
  ·have e30:a.eval (.tmp 30)=.agg (V7 K0 i):=hA.tmp (j:=2) rfl rfl (Br.f9 hi rfl (by kernel_rfl)) (by omega) rfl;have l2:listed.getD 2 false=true:=Br.f9 hi rfl (by kernel_rfl);refine b1B rfl (λu=>k6 rfl rfl (by decide) rfl Tryd.func88 rfl rfl (vs:=#[.agg (V7 K0 i)]) (by simp [e30]) u) ?_;refine a2v (by kernel_rfl) (by have:=I8 (λj=>K0.S i (3+j*2)) 4;unfold a1j;omega) (λv _=>a6E K0 i v) _ _ (λps bs5 H5 hfx hfc hfb5 hfo hnew5 hkeep5=>?_);obtain ⟨o,ho,hdst⟩:∃ o,u8[3]?=some o/\o.dst=some 31:=⟨_,rfl,rfl⟩
   have hA':=(hA.val (V':=a2x C.o i (.agg (V7 K0 i)) ps.val undef undef undef undef) (λj hj=>by
    have hj6:j<5:=by
     rcases Nat.lt_or_ge j 5 with h|h
     ·exact h
     ·rw [hoff j h] at hj;cases hj
    have hcs:j=0\/j=1\/j=2\/j=3\/j=4:=by omega
    rcases hcs with rfl|rfl|rfl|rfl|rfl<;>first|rfl|(rw [h3] at hj;cases hj))).put F7 ho (v:=ps.val) rfl
   rw [Frame.finish_at,show (u8[3]?.bind λx=>x.dst)=o.dst from by rw [ho];rfl];refine b7g h40 b0 b6 b7 (List.mem_append_right _ hbx) ((hkeep5 bx hbx).trans hX) hms ps hfo fr cs k0 k (by rw [hs,hfx]) hn _ _ _ _ hO ⟨hA',λj h1 h2=>?_,λj hj=>Br.a1N (hoff j (by omega)) (by omega)⟩;have hcs:j=2\/j=3:=by omega
   rcases hcs with rfl|rfl
   ·exact Br.C0 l2
   ·exact Br.P8 hi
  ·obtain ⟨o,ho,hop,hg⟩:∃ o,u8[4]?=some o/\o.op=.load 55 (.tmp 7)/\o.guard=none:=⟨_,rfl,rfl,rfl⟩;have e7:a.eval (.tmp 7)=.pointer (some ⟨bx,0,none⟩):=hA.base (by kernel_rfl) b7;exact a3B hA F7 ho hg (by decide) hop e7 hbx hX hms Tryd.underlying55 rfl (by rw [A5];kernel_rfl) (congrArg Value.agg (a2u K0 i).symm) (hIH' (by omega) (by omega))
  ·exact (Br.B6 hi rfl (j:=3) h3 (by kernel_rfl)).elim
  ·exact (Br.B6 hi rfl (j:=3) h3 (by kernel_rfl)).elim
  ·exact (Br.B6 hi rfl (j:=6) (hoff 6 (by omega)) (by kernel_rfl)).elim
  ·exact (Br.B6 hi rfl (j:=6) (hoff 6 (by omega)) (by kernel_rfl)).elim
  ·exact (Br.B6 hi rfl (j:=6) (hoff 6 (by omega)) (by kernel_rfl)).elim
  ·exact (Br.B6 hi rfl (j:=6) (hoff 6 (by omega)) (by kernel_rfl)).elim
 ·exact absurd (Br.G9 (by kernel_rfl) hA2.1.len hr 6 (by show 6<11;omega)) (by rw [hA2.2.2 6 (by omega)];simp)
end
section
variable {C:Ctx} {n:Nat} {pv:List Nat} {H:w9} {free:Value} {go:Bool}
def a3f (K0:Ker)(p:Int):Nat->Nat->M (Int × Int)
 | 0,_=>(T0 11).bind λe=>M.pure (0,e)
 | f+1,i=>if (K0.S i 1 == p && K0.S i 0 == 3)=true then a1J i (a1j K0 i) (a0Q K0 i) else a3f K0 p f (i+1)
noncomputable def a4t:List Item :=
 match Tryd.f80.body with
 | some (.seq _ (.seq (.seq _ (.block i (.loop c))) r))=>[.code c,.inLoop c,.inBlock i,.code r]
 | _=>[]
theorem I3 (m j:Nat):(Array.replicate m false).getD j false=false:=by
 rw [Array.getD_eq_getD_getElem?,Array.getElem?_replicate];split<;>rfl
theorem b4D (K0:Ker)(gF gS gD sb:Nat)(hK:K0.nS<=32)(H0:w9)(hR:Row pv H0 gS 55 (K0.nS*20) (o0 K0))(fr:Frame)(cs:List Frame)(k:Int × Int->Bool->q7)
  (hn:∀ x e go' H',o9 C n (k (x,e) go') [] H' free go' (G (fr.finish (.tuple #[.int .i64 x,.int .i64 e])) cs)) :
  ∀ (f i:Nat),i+f=K0.nS->∀ (H:w9),(∀ i∈pv,H i=H0 i)->∀ (go:Bool) (j6 j7 j12 j13 j14 j15 j16 j17 j18 j19 j20 j21 j22 j23 j24 j25 j26 j27 j37:Value),
  o9 C n ((a3f K0 C.slot f i).then go k) pv H free go (G ((base 80).at ⟨#[pO C.o,A4 K0 gF gS gD,undef,.pointer (some ⟨sb,0,none⟩),.int .i64 0,.int .i64 0,j6,j7,.pointer (some ⟨sb,1,none⟩),.slice (some ⟨gS,0,none⟩) K0.nS K0.nS,.int .i64 K0.nS,.int .i64 i,j12,j13,j14,j15,j16,j17,j18,j19,j20,j21,j22,j23,j24,j25,j26,j27,undef,undef,undef,undef,undef,undef,undef,undef,undef,j37,undef,undef],[]⟩ a4t) (fr::cs)):=by
 intro f
 induction f with
 | zero =>
  intro i hi H hH go j6 j7 j12 j13 j14 j15 j16 j17 j18 j19 j20 j21 j22 j23 j24 j25 j26 j27 j37;obtain rfl:i=K0.nS:=by omega
  unfold a3f;rw [M.bind_then];unfold a4t;simp only [Tryd.f80,pO];apply d7
  ·intro l K un w Stop St hd d;have hc:=St.clear;refine Br.b8 (λd=>?_) _;refine Br.b9 (λd=>?_) _;simp only [Br.rz,Br.ix,Nat.reduceAdd];refine Br.mo rfl rfl λd K' hK=>?_;go_simp;refine hK _ _ ⟨rfl,?_⟩;clear hK K';refine Br.a9 (λd=>?_) _;refine Br.b8 (λd=>?_) _;refine Br.mc rfl (λu=>stepG_cond (t:=false) (by simp [Act.eval])) (λd=>?_) _;simp only [if_false,Bool.false_eq_true];refine Br.mc rfl (λu=>stepG_exit rfl) (λd=>?_) _;refine Br.b8 (λd=>?_) _;refine Br.b9 (λd=>?_) _;simp only [Br.rz,Br.ix,Nat.reduceAdd];refine Br.mo rfl rfl λd K' hK=>?_;go_simp;refine hK _ _ ⟨rfl,?_⟩;clear hK K';refine Br.mc rfl (λu=>k6 rfl rfl (by decide) rfl Tryd.func93 rfl rfl (vs:=#[pO C.o,.int .i64 11]) (by simp [Act.eval]) u) (λd=>?_) _;exact hd _
  refine a1I 11 _ _ _ (λe go'=>?_);rw [M.pure_then,Frame.finish_at];apply d7
  ·intro l K un w Stop St hd d;have hc:=St.clear;go_simp;(iterate 2(refine Br.mo rfl rfl λd K' hK=>?_;go_simp;refine hK _ _ ⟨rfl,?_⟩;clear hK K'));refine Br.a9 (λd=>?_) _;refine Br.q8 (λd=>?_) _;exact Br.m8 (v:=.tuple #[.int .i64 0,.int .i64 e]) rfl rfl Tryd.func80 (resultsC_tmp2 (t:=4) (u:=5) rfl _) hd _
   done
  exact L9 (hn 0 e go' H)
 | succ f ih =>
  intro i hi H hH go j6 j7 j12 j13 j14 j15 j16 j17 j18 j19 j20 j21 j22 j23 j24 j25 j26 j27 j37;have hlt:i<K0.nS:=by omega
  have hlt':(i:Int)<(K0.nS:Int):=by omega
  have key:=λ(j6 j7 j12 j13 j14 j15 j16 j17 j18 j19 j20 j21 j22 j23 j24 j25 j26 j27 j37:Value) v hv=>b4B (C:=C) (pv:=pv) (H:=H) (gF:=gF) (gD:=gD) (sb:=sb) hK (hR.same (hH gS hR.1)) hlt j6 j7 j12 j13 j14 j15 j16 j17 j18 j19 j20 j21 j22 j23 j24 j25 j26 j27 j37 v hv;unfold a3f;unfold a4t at *;unfold b7c at key;simp only [Tryd.f80,pO] at *;apply d7
  ·intro l K un w Stop St hd d;have hc:=St.clear;refine Br.b8 (λd=>?_) _;refine Br.b9 (λd=>?_) _;simp only [Br.rz,Br.ix,Nat.reduceAdd];refine Br.mo rfl rfl λd K' hK=>?_;go_simp;refine hK _ _ ⟨rfl,?_⟩;clear hK K';refine Br.a9 (λd=>?_) _;refine Br.b8 (λd=>?_) _;refine Br.mc rfl (λu=>stepG_cond (t:=true) (by simp [Act.eval,hlt])) (λd=>?_) _;simp only [if_true];refine Br.l9 (λd=>?_) _;refine Br.b8 (λd=>?_) _;refine Br.mc rfl (λu=>stepG_block) (λd=>?_) _;refine Br.b8 (λd=>?_) _;exact hd _
  refine a1x (by kernel_rfl) rfl rfl ⟨_,Tryd.func80⟩ (λv hv _=>key _ _ _ _ _ _ _ _ _ _ _ _ _ _ _ _ _ _ _ v hv) _ _ ?_;clear key;rintro a' bs Hn ⟨bx,rfl,rfl,c,t,fz,hX,hc⟩ hnew hkeep;have hbx:=(hnew bx (List.mem_singleton.2 rfl)).1;have key:=λ(j12 j13 j14 j15 j16 j17 j18 j19 j20 j21 j22 j23 j24 j25 j26 j27 j37:Value) v hv hC=>b4C (C:=C) (pv:=[bx] ++ pv) (H:=Hn) (gF:=gF) (gS:=gS) (gD:=gD) (sb:=sb) (List.mem_append_left _ (List.mem_singleton.2 rfl)) hX hc j12 j13 j14 j15 j16 j17 j18 j19 j20 j21 j22 j23 j24 j25 j26 j27 j37 v hv hC;unfold b7d at key;simp only [Tryd.f80,pO] at key;apply d7
  ·intro l K un w Stop St hd d;have hc:=St.clear;refine Br.b8 (λd=>?_) _;exact hd _
  refine a1x (by kernel_rfl) rfl rfl ⟨_,Tryd.func80⟩ (λv hv hrec=>key _ _ _ _ _ _ _ _ _ _ _ _ _ _ _ _ _ v hv (hrec 4 _ (λun=>by simp [I5]))) _ _ ?_;clear key;rintro a' bs Hn2 ⟨rfl,j12,j13,j14,j15,j16,j17,j18,j19,j20,j21,j22,j23,j24,j25,j26,j37,rfl⟩ hnew2 hkeep2;have hX2:Hn2 bx=.cells c t fz:=(hkeep2 bx (List.mem_append_left _ (List.mem_singleton.2 rfl))).trans hX
  by_cases hb:(K0.S i 1 == C.slot && K0.S i 0 == 3)=true
  ·rw [if_pos hb];apply d7
   ·intro l K un w Stop St hd d;have hc:=St.clear;refine Br.mc rfl (λu=>stepG_cond (t:=true) (by simpa [Act.eval] using hb)) (λd=>?_) _;simp only [if_true];refine Br.b8 (λd=>?_) _;exact hd _
   have key:=λ(tb:Array Value) h40 b0 b6 b7 (k0:List Item) rest hO=>b7h (C:=C) (n:=n) (pv:=[] ++ ([bx] ++ pv)) (H:=Hn2) (free:=free) (go:=go) (i:=i) (tb:=tb) (K0:=K0) h40 b0 b6 b7 (List.mem_append_right _ (List.mem_append_left _ (List.mem_singleton.2 rfl))) hX2 (λj v hj=>by obtain ⟨h1,rfl⟩:=a8T hj;exact hc j h1) fr cs k0 k rfl hn u8.size (Array.replicate u8.size false) ⟨tb,[]⟩ rest hO ⟨Br.Agr.start _ _ _,I3 _ _,λj _=>I3 _ _⟩;unfold u8 at key;simp only [Tryd.f80,pO] at key;refine b4r (by kernel_rfl) (λrest hO=>?_);exact key _ rfl rfl rfl rfl _ rest hO
  ·rw [if_neg hb];have hb:(K0.S i 1 == C.slot && K0.S i 0 == 3)=false:=by simpa using hb
   apply d7
   ·intro l K un w Stop St hd d;have hc:=St.clear;refine Br.mc rfl (λu=>stepG_cond (t:=false) (by simpa [Act.eval] using hb)) (λd=>?_) _;simp only [if_false,Bool.false_eq_true];refine Br.l9 (λd=>?_) _;refine Br.mc rfl (λu=>stepG_inBlock) (λd=>?_) _;refine Br.b9 (λd=>?_) _;simp only [Br.rz,Br.ix,Nat.reduceAdd];(iterate 2(refine Br.mo rfl rfl λd K' hK=>?_;go_simp;refine hK _ _ ⟨rfl,?_⟩;clear hK K'));refine Br.a9 (λd=>?_) _;refine Br.mc rfl (λu=>stepG_inLoop) (λd=>?_) _;exact hd _
   rw [J8 (by omega) (by omega),show ((i:Int)+1)=((i+1:Nat):Int) from by simp];refine a6H (pv':=pv) (H':=Hn2) (λj hj=>List.mem_append_right _ (List.mem_append_right _ hj)) (λ_ _=>rfl) ?_;exact ih (i+1) (by omega) Hn2 (λj hj=>(hkeep2 j (List.mem_append_right _ hj)).trans ((hkeep j hj).trans (hH j hj))) go _ _ _ _ _ _ _ _ _ _ _ _ _ _ _ _ _ _ _
noncomputable def a2U:Code:=(Tryd.f80.body).getD .skip
theorem b0w (o:OpD)(y:Value):Frame.enter Tryd.prog 80 #[pO o,y] .normal=(base 80).at ⟨#[pO o,y,undef,undef,undef,undef,undef,undef,undef,undef,undef,undef,undef,undef,undef,undef,undef,undef,undef,undef,undef,undef,undef,undef,undef,undef,undef,undef,undef,undef,undef,undef,undef,undef,undef,undef,undef,undef,undef,undef],[]⟩ [.code a2U]:=by
 rw [enter_at (c:=a2U) _ Tryd.func80 rfl];refine congrArg (λt=>(base 80).at ⟨t,[]⟩ [.code a2U]) ?_
 kernel_rfl
theorem b4E (K0:Ker)(gF gS gD:Nat)(hK:K0.nS<=32)(hR:Row pv H gS 55 (K0.nS*20) (o0 K0))(fr:Frame)(cs:List Frame)(k:Int × Int->Bool->q7)
  (hn:∀ x e go' H',o9 C n (k (x,e) go') [] H' free go' (G (fr.finish (.tuple #[.int .i64 x,.int .i64 e])) cs)) :
  o9 C n ((a3f K0 C.slot K0.nS 0).then go k) pv H free go (G (Frame.enter Tryd.prog 80 #[pO C.o,A4 K0 gF gS gD] .normal) (fr::cs)):=by
 have key:=λsb=>b4D (C:=C) (n:=n) (free:=free) K0 gF gS gD sb hK H hR fr cs k hn K0.nS 0 (by omega) H (λ_ _=>rfl) go;unfold a4t at key;rw [b0w];simp only [a2U,Tryd.f80,Option.getD_some,pO] at *;unfold A4 at *;apply a0P (X:=L8 K0 gF gS gD) trivial
 ·intro l K un w bx Stop hbx St hd d;have hc:=St.clear;refine Br.b8 (λd=>?_) _;refine Br.b9 (λd=>?_) _;simp only [Br.rz,Br.ix,Nat.reduceAdd];refine Br.t8 rfl rfl (by decide) (λd K' hK=>?_) _;go_simp;refine hK _ _ ⟨Br.L7 (λe he=>?_),?_⟩
  ·have hm:=mem_listed he;simp [go_sem] at hm
  clear hK K';have hc:Clear (w.alloc (L8 K0 gF gS gD)):=(Br.a0K hc.lk (o:=L8 K0 gF gS gD) trivial).1.sight;rw [show (w.at d).alloc (L8 K0 gF gS gD)=(w.alloc (L8 K0 gF gS gD)).at d from rfl];(iterate 2(refine Br.mo rfl rfl λd K' hK=>?_;go_simp;refine hK _ _ ⟨rfl,?_⟩;clear hK K'));refine Br.a9 (λd=>?_) _;rw [← hbx];exact hd _
 intro bx hb hb';apply d7
 ·intro l K un w Stop St hd d;have hc:=St.clear;refine Br.b8 (λd=>?_) _;refine Br.b8 (λd=>?_) _;refine Br.b9 (λd=>?_) _;simp only [Br.rz,Br.ix,Nat.reduceAdd];refine Br.mo rfl rfl λd K' hK=>?_;go_simp;refine hK _ _ ⟨rfl,?_⟩;clear hK K';refine Br.mo rfl rfl λd K' hK=>?_;have e1:(w.at d).cell? ⟨bx,1,none⟩=some (.slice (some ⟨gS,0,none⟩) K0.nS K0.nS):=St.cell (List.mem_cons_self ..) (w9.set_same _ _ _) rfl;go_simp;refine hK _ _ ⟨rfl,?_⟩;clear hK K';(iterate 2(refine Br.mo rfl rfl λd K' hK=>?_;go_simp;refine hK _ _ ⟨rfl,?_⟩;clear hK K'));refine Br.a9 (λd=>?_) _;refine Br.mc rfl (λu=>stepG_block) (λd=>?_) _;refine Br.mc rfl (λu=>stepG_loop) (λd=>?_) _;exact hd _
 refine N9 hb ?_;exact key bx _ _ _ _ _ _ _ _ _ _ _ _ _ _ _ _ _ _ _
end
end Go.Proofs.YtcgabodkegcpgaaDoor
