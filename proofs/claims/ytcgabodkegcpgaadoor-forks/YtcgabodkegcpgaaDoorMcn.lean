/- Begin: its last region, whichever order. -/
import Derived.Test.YtcgabodkegcpgaaDoorMcl
set_option linter.unusedVariables false
set_option linter.unusedSimpArgs false
set_option maxHeartbeats 20000000
set_option maxRecDepth 100000
namespace Go.Proofs.YtcgabodkegcpgaaDoor
open Go.Conc Go.RowKit
open Br (X OpD KO SO SP sfO Lk Fit Must DL Liv Clear)
noncomputable def A6:Array Oper :=
 match Tryd.f17.body with
 | some (.seq _ (.seq _ (.seq _ (.seq _ (.seq (.region _ ops _) _)))))=>ops
 | _=>#[]
theorem F6:Br.a0R A6=true:=by kernel_rfl
def bgV (bl bu bk n p:Nat)(kd A B:Int)(q:Value):Nat->Value
 | 0=>.pointer (some ⟨bl,0,none⟩)|1=>.pointer (some ⟨bl,0,none⟩)|2=>.pointer (some ⟨bl,1,none⟩)|3=>.slice (some ⟨bu,0,none⟩) n n|4=>.int .i64 p
 | 5=>.pointer (some ⟨bl,0,none⟩)|6=>.pointer (some ⟨bl,0,none⟩)|7=>.pointer (some ⟨bl,0,none⟩)|8=>.pointer (some ⟨bk,0,none⟩)|9=>.int .i64 p|10=>.agg #[.int .i64 kd,.int .i64 A,.int .i64 B]
 | 11=>q|12=>.pointer (some ⟨bu,p,none⟩)|_=>undef
structure BgS (w:World) (bl bu bk n bx:Nat) (kd A B:Int):Prop where
 k:w.cell? ⟨bl,0,none⟩=some (.pointer (some ⟨bk,0,none⟩))
 u:w.cell? ⟨bl,1,none⟩=some (.slice (some ⟨bu,0,none⟩) n n)
 x0:w.cell? ⟨bx,0,none⟩=some (.int .i64 kd)
 x1:w.cell? ⟨bx,1,none⟩=some (.int .i64 A)
 x2:w.cell? ⟨bx,2,none⟩=some (.int .i64 B)
theorem c0C {l:List OpD}{Stop:Goroutine->World->Prop}{bl bu bk n p bx:Nat}{kd A B:Int}{tb:Array Value}(h40:tb.size=40)(b0:tb[0]?=some (.pointer (some ⟨bl,0,none⟩)))(b1:tb[1]?=some (.int .i64 p))(b5:tb[5]?=some (.pointer (some ⟨bx,0,none⟩)))(hp:p<n){w w3:World}(hc:Clear w)(hS:BgS w bl bu bk n bx kd A B)(qv:Value)(k:List Item)(cs:List Frame)
  (r13:∀ (o:Oper) (a:Act) (rest:List Nat) (d:Nat),A6[13]?=some o->o.op=.store 106 (.tmp 39) (.tmp 38)->o.guard=none->a.eval (.tmp 39)=.pointer (some ⟨bu,p,none⟩)->a.eval (.tmp 38)=qv->(∀ d,Must Tryd.prog true (DL true (sfO l)) Stop (G ((base 17).at (a.put o.dst undef) (.inRegion A6 rest::k)) cs) (w3.at d))->Must Tryd.prog true (DL true (sfO l)) Stop (G ((base 17).at a (.inRegion A6 (13::rest)::k)) cs) (w.at d))
  (hfin:∀ d,Must Tryd.prog true (DL true (sfO l)) Stop (G ((base 17).at ⟨Br.fill A6 (bgV bl bu bk n p kd A B qv) tb,[]⟩ (.inRegion A6 [] :: k)) cs) (w3.at d)) :
  ∀ fuel listed (aw:Act × World) rest,Br.Ord A6 fuel listed rest->(Br.Agr A6 (bgV bl bu bk n p kd A B qv) tb listed aw.1/\aw.2=(if listed.getD 13 false then w3 else w)/\listed.getD 11 false=true/\(listed.getD 12 false=true->∀ j,j<=11->listed.getD j false=true)/\(listed.getD 13 false=true->listed.getD 12 false=true))->∀ d,Must Tryd.prog true (DL true (sfO l)) Stop (G ((base 17).at aw.1 (.inRegion A6 rest::k)) cs) (aw.2.at d):=by
 have i0:(0:Int)<=(p:Int):=by omega
 have i1:(p:Int)<(n:Int):=by omega
 refine a3V (J:=λ(aw:Act × World) rest=>∀ d,Must Tryd.prog true (DL true (sfO l)) Stop (G ((base 17).at aw.1 (.inRegion A6 rest::k)) cs) (aw.2.at d)) (λf0 listed aw q rest hi hA2 hO hIH=>?_) (λlisted aw hr hA2=>?_)
 ·obtain ⟨a,w'⟩:=aw;obtain ⟨hA,hw,h11,h12,h13⟩:=hA2;simp only at hA hw;have Hw:Hid (w'=(if listed.getD 13 false then w3 else w)):=hw;clear hw;have no13:q<=12->listed.getD 13 false=false:=λhq=>by
   cases e:listed.getD 13 false with
   | false=>rfl
   | true =>
    have e12:=h13 e;rcases Nat.lt_or_ge q 12 with h|h
    ·exact (Br.v9 hi (h12 e12 q (by omega))).elim
    ·obtain rfl:q=12:=by omega
     exact (Br.v9 hi e12).elim
  have hww:Hid (q<=12->w'=w):=λhq=>by rw [Hw.out,no13 hq];rfl
  have keep:q<=10\/q=12->(q=12->∀ j,j<=11->listed.getD j false=true)->∀ a',Br.Agr A6 (bgV bl bu bk n p kd A B qv) tb (listed.setIfInBounds q true) a'->∀ d,Must Tryd.prog true (DL true (sfO l)) Stop (G ((base 17).at a' (.inRegion A6 rest::k)) cs) (w.at d):=λhq h12q a' h=>hIH (a',w) ⟨h,by rw [g8 (by omega),no13 (by omega)];rfl,Br.C0 h11,λh1 j hj=>(by
    by_cases e:q=12
    ·exact Br.C0 (h12q e j hj)
    ·rw [g8 e] at h1;exact Br.C0 (h12 h1 j hj)),λh1=>by rw [g8 (by omega),no13 (by omega)] at h1;cases h1⟩
  have hlt:=Br.G8 hi;have hz:A6.size=14:=by kernel_rfl
  rw [hz] at hlt;have hcs:q=0\/q=1\/q=2\/q=3\/q=4\/q=5\/q=6\/q=7\/q=8\/q=9\/q=10\/q=11\/q=12\/q=13:=by omega
  rcases hcs with rfl|rfl|rfl|rfl|rfl|rfl|rfl|rfl|rfl|rfl|rfl|rfl|rfl|rfl
  ·obtain ⟨o,ho,hop,hg⟩:∃ o,A6[0]?=some o/\o.op=.move (.tmp 0)/\o.guard=none:=⟨_,rfl,rfl,rfl⟩;have e0:a.eval (.tmp 0)=.pointer (some ⟨bl,0,none⟩):=hA.base (by kernel_rfl) b0;obtain rfl:=hww.out (by omega);clear hww Hw;exact λd=>u7 ho hg (by decide) (by rw [hop];rfl) hc (v:=.pointer (some ⟨bl,0,none⟩)) (λd=>(w8 hop e0)) (keep (by omega) (λe=>by omega) _ (hA.put F6 ho rfl)) d
  ·obtain ⟨o,ho,hop,hg⟩:∃ o,A6[1]?=some o/\o.op=.nilCheck (.tmp 27)/\o.guard=none:=⟨_,rfl,rfl,rfl⟩;have e27:a.eval (.tmp 27)=.pointer (some ⟨bl,0,none⟩):=hA.tmp (j:=0) rfl rfl (Br.f9 hi rfl (by kernel_rfl)) (by omega) rfl;obtain rfl:=hww.out (by omega);clear hww Hw;exact λd=>u7 ho hg (by decide) (by rw [hop];rfl) hc (v:=.pointer (some ⟨bl,0,none⟩)) (λd=>(by unfold execOp;simp only [hop,e27];go_simp)) (keep (by omega) (λe=>by omega) _ (hA.put F6 ho rfl)) d
  ·obtain ⟨o,ho,hop,hg⟩:∃ o,A6[2]?=some o/\o.op=.fieldAddr 104 (.tmp 28) 1/\o.guard=none:=⟨_,rfl,rfl,rfl⟩;have e28:a.eval (.tmp 28)=.pointer (some ⟨bl,0,none⟩):=hA.tmp (j:=1) rfl rfl (Br.f9 hi rfl (by kernel_rfl)) (by omega) rfl;obtain rfl:=hww.out (by omega);clear hww Hw;exact λd=>u7 ho hg (by decide) (by rw [hop];rfl) hc (v:=.pointer (some ⟨bl,1,none⟩)) (λd=>(by unfold execOp;simp only [hop,e28];go_simp)) (keep (by omega) (λe=>by omega) _ (hA.put F6 ho rfl)) d
  ·obtain ⟨o,ho,hop,hg⟩:∃ o,A6[3]?=some o/\o.op=.load 102 (.tmp 29)/\o.guard=none:=⟨_,rfl,rfl,rfl⟩;have e29:a.eval (.tmp 29)=.pointer (some ⟨bl,1,none⟩):=hA.tmp (j:=2) rfl rfl (Br.f9 hi rfl (by kernel_rfl)) (by omega) rfl;obtain rfl:=hww.out (by omega);clear hww Hw;exact λd=>u7 ho hg (by decide) (by rw [hop];rfl) hc (v:=.slice (some ⟨bu,0,none⟩) n n) (λd=>(by have y0:(w'.at d).cell? _=_:=hS.k;have y1:(w'.at d).cell? _=_:=hS.u;have y2:(w'.at d).cell? _=_:=hS.x0;have y3:(w'.at d).cell? _=_:=hS.x1;have y4:(w'.at d).cell? _=_:=hS.x2;unfold execOp;simp only [hop,e29];go_simp)) (keep (by omega) (λe=>by omega) _ (hA.put F6 ho rfl)) d
  ·obtain ⟨o,ho,hop,hg⟩:∃ o,A6[4]?=some o/\o.op=.move (.tmp 1)/\o.guard=none:=⟨_,rfl,rfl,rfl⟩;have e1:a.eval (.tmp 1)=.int .i64 p:=hA.base (by kernel_rfl) b1;obtain rfl:=hww.out (by omega);clear hww Hw;exact λd=>u7 ho hg (by decide) (by rw [hop];rfl) hc (v:=.int .i64 p) (λd=>(w8 hop e1)) (keep (by omega) (λe=>by omega) _ (hA.put F6 ho rfl)) d
  ·obtain ⟨o,ho,hop,hg⟩:∃ o,A6[5]?=some o/\o.op=.move (.tmp 0)/\o.guard=none:=⟨_,rfl,rfl,rfl⟩;have e0:a.eval (.tmp 0)=.pointer (some ⟨bl,0,none⟩):=hA.base (by kernel_rfl) b0;obtain rfl:=hww.out (by omega);clear hww Hw;exact λd=>u7 ho hg (by decide) (by rw [hop];rfl) hc (v:=.pointer (some ⟨bl,0,none⟩)) (λd=>(w8 hop e0)) (keep (by omega) (λe=>by omega) _ (hA.put F6 ho rfl)) d
  ·obtain ⟨o,ho,hop,hg⟩:∃ o,A6[6]?=some o/\o.op=.nilCheck (.tmp 32)/\o.guard=none:=⟨_,rfl,rfl,rfl⟩;have e32:a.eval (.tmp 32)=.pointer (some ⟨bl,0,none⟩):=hA.tmp (j:=5) rfl rfl (Br.f9 hi rfl (by kernel_rfl)) (by omega) rfl;obtain rfl:=hww.out (by omega);clear hww Hw;exact λd=>u7 ho hg (by decide) (by rw [hop];rfl) hc (v:=.pointer (some ⟨bl,0,none⟩)) (λd=>(by unfold execOp;simp only [hop,e32];go_simp)) (keep (by omega) (λe=>by omega) _ (hA.put F6 ho rfl)) d
  ·obtain ⟨o,ho,hop,hg⟩:∃ o,A6[7]?=some o/\o.op=.fieldAddr 104 (.tmp 33) 0/\o.guard=none:=⟨_,rfl,rfl,rfl⟩;have e33:a.eval (.tmp 33)=.pointer (some ⟨bl,0,none⟩):=hA.tmp (j:=6) rfl rfl (Br.f9 hi rfl (by kernel_rfl)) (by omega) rfl;obtain rfl:=hww.out (by omega);clear hww Hw;exact λd=>u7 ho hg (by decide) (by rw [hop];rfl) hc (v:=.pointer (some ⟨bl,0,none⟩)) (λd=>(by unfold execOp;simp only [hop,e33];go_simp)) (keep (by omega) (λe=>by omega) _ (hA.put F6 ho rfl)) d
  ·obtain ⟨o,ho,hop,hg⟩:∃ o,A6[8]?=some o/\o.op=.load 25 (.tmp 34)/\o.guard=none:=⟨_,rfl,rfl,rfl⟩;have e34:a.eval (.tmp 34)=.pointer (some ⟨bl,0,none⟩):=hA.tmp (j:=7) rfl rfl (Br.f9 hi rfl (by kernel_rfl)) (by omega) rfl;obtain rfl:=hww.out (by omega);clear hww Hw;exact λd=>u7 ho hg (by decide) (by rw [hop];rfl) hc (v:=.pointer (some ⟨bk,0,none⟩)) (λd=>(by have y0:(w'.at d).cell? _=_:=hS.k;have y1:(w'.at d).cell? _=_:=hS.u;have y2:(w'.at d).cell? _=_:=hS.x0;have y3:(w'.at d).cell? _=_:=hS.x1;have y4:(w'.at d).cell? _=_:=hS.x2;unfold execOp;simp only [hop,e34];go_simp)) (keep (by omega) (λe=>by omega) _ (hA.put F6 ho rfl)) d
  ·obtain ⟨o,ho,hop,hg⟩:∃ o,A6[9]?=some o/\o.op=.move (.tmp 1)/\o.guard=none:=⟨_,rfl,rfl,rfl⟩;have e1:a.eval (.tmp 1)=.int .i64 p:=hA.base (by kernel_rfl) b1;obtain rfl:=hww.out (by omega);clear hww Hw;exact λd=>u7 ho hg (by decide) (by rw [hop];rfl) hc (v:=.int .i64 p) (λd=>(w8 hop e1)) (keep (by omega) (λe=>by omega) _ (hA.put F6 ho rfl)) d
  ·obtain ⟨o,ho,hop,hg⟩:∃ o,A6[10]?=some o/\o.op=.load 38 (.tmp 5)/\o.guard=none:=⟨_,rfl,rfl,rfl⟩;have e5:a.eval (.tmp 5)=.pointer (some ⟨bx,0,none⟩):=hA.base (by kernel_rfl) b5;obtain rfl:=hww.out (by omega);clear hww Hw;exact λd=>u7 ho hg (by decide) (by rw [hop];rfl) hc (v:=.agg #[.int .i64 kd,.int .i64 A,.int .i64 B]) (λd=>(by have y0:(w'.at d).cell? _=_:=hS.k;have y1:(w'.at d).cell? _=_:=hS.u;have y2:(w'.at d).cell? _=_:=hS.x0;have y3:(w'.at d).cell? _=_:=hS.x1;have y4:(w'.at d).cell? _=_:=hS.x2;unfold execOp;simp only [hop,e5];go_simp)) (keep (by omega) (λe=>by omega) _ (hA.put F6 ho rfl)) d
  ·exact (Br.v9 hi h11).elim
  ·obtain ⟨o,ho,hop,hg⟩:∃ o,A6[12]?=some o/\o.op=.indexAddr 102 (.tmp 30) (.tmp 31)/\o.guard=none:=⟨_,rfl,rfl,rfl⟩;have e30:a.eval (.tmp 30)=.slice (some ⟨bu,0,none⟩) n n:=hA.tmp (j:=3) rfl rfl (Br.f9 hi rfl (by kernel_rfl)) (by omega) rfl;have e31:a.eval (.tmp 31)=.int .i64 p:=hA.tmp (j:=4) rfl rfl (Br.f9 hi rfl (by kernel_rfl)) (by omega) rfl;obtain rfl:=hww.out (by omega);clear hww Hw;exact λd=>u7 ho hg (by decide) (by rw [hop];rfl) hc (v:=.pointer (some ⟨bu,p,none⟩)) (λd=>(by unfold execOp;simp only [hop,e30,e31];go_simp)) (keep (by omega) (λ_ j hj=>by (have hcs:j=0\/j=1\/j=2\/j=3\/j=4\/j=5\/j=6\/j=7\/j=8\/j=9\/j=10\/j=11:=by omega);rcases hcs with rfl|rfl|rfl|rfl|rfl|rfl|rfl|rfl|rfl|rfl|rfl|rfl<;>exact Br.f9 hi rfl (by kernel_rfl)) _ (hA.put F6 ho rfl)) d
  ·obtain ⟨o,ho,hop,hg⟩:∃ o,A6[13]?=some o/\o.op=.store 106 (.tmp 39) (.tmp 38)/\o.guard=none:=⟨_,rfl,rfl,rfl⟩;have e39:a.eval (.tmp 39)=.pointer (some ⟨bu,p,none⟩):=hA.tmp (j:=12) rfl rfl (Br.f9 hi rfl (by kernel_rfl)) (by omega) rfl;have e38:a.eval (.tmp 38)=qv:=hA.tmp (j:=11) rfl rfl h11 (by omega) rfl;have l12:listed.getD 12 false=true:=Br.f9 hi rfl (by kernel_rfl);have f13:=M4 hi;obtain rfl:w'=w:=by rw [Hw.out,f13];rfl
   exact λd=>r13 o a rest d ho hop hg e39 e38 (hIH (_,w3) ⟨hA.put F6 ho rfl,by rw [Br.P8 hi];rfl,Br.C0 h11,λ_ j hj=>Br.C0 (h12 l12 j hj),λ_=>Br.C0 l12⟩)
 ·obtain ⟨a,w'⟩:=aw;obtain ⟨hA,hw,h11,h12,h13⟩:=hA2;simp only at hA hw;have hall:=Br.G9 (by kernel_rfl) hA.len hr;have hz:A6.size=14:=by kernel_rfl
  obtain rfl:=hA.full hall;obtain rfl:w'=w3:=by rw [hw,hall 13 (by omega)];rfl
  exact hfin
theorem c0D {l:List OpD}{Stop:Goroutine->World->Prop}{bl bu bk n p bx:Nat}{kd A B:Int}{tb:Array Value}(h40:tb.size=40)(b0:tb[0]?=some (.pointer (some ⟨bl,0,none⟩)))(b1:tb[1]?=some (.int .i64 p))(b5:tb[5]?=some (.pointer (some ⟨bx,0,none⟩)))(hp:p<n){w:World}(hc:Clear w)(hS:BgS w bl bu bk n bx kd A B)(k:List Item)(cs:List Frame)
  (r11:∀ (fuel:Nat) (listed:Array Bool) (a:Act) (rest:List Nat) (d:Nat),Br.Ord A6 fuel (listed.setIfInBounds 11 true) rest->Br.Agr A6 (bgV bl bu bk n p kd A B undef) tb listed a->11∈Region.ready .any A6 listed->(∀ j,11<=j->listed.getD j false=false)->Must Tryd.prog true (DL true (sfO l)) Stop (G ((base 17).at a (.inRegion A6 (11::rest)::k)) cs) (w.at d)) :
  ∀ fuel listed a rest,Br.Ord A6 fuel listed rest->(Br.Agr A6 (bgV bl bu bk n p kd A B undef) tb listed a/\∀ j,11<=j->listed.getD j false=false)->∀ d,Must Tryd.prog true (DL true (sfO l)) Stop (G ((base 17).at a (.inRegion A6 rest::k)) cs) (w.at d):=by
 have i0:(0:Int)<=(p:Int):=by omega
 have i1:(p:Int)<(n:Int):=by omega
 refine Br.a1M (J:=λa rest=>∀ d,Must Tryd.prog true (DL true (sfO l)) Stop (G ((base 17).at a (.inRegion A6 rest::k)) cs) (w.at d)) (λf0 listed a q rest hi hA2 hO hIH=>?_) (λlisted a hr hA2=>?_)
 ·obtain ⟨hA,hoff⟩:=hA2;have keep:q<=10->∀ a',Br.Agr A6 (bgV bl bu bk n p kd A B undef) tb (listed.setIfInBounds q true) a'->∀ d,Must Tryd.prog true (DL true (sfO l)) Stop (G ((base 17).at a' (.inRegion A6 rest::k)) cs) (w.at d):=λhq a' h=>hIH a' ⟨h,λj hj=>by rw [g8 (by omega)];exact hoff j hj⟩;have hlt:=Br.G8 hi;have hz:A6.size=14:=by kernel_rfl
  rw [hz] at hlt;have hcs:q=0\/q=1\/q=2\/q=3\/q=4\/q=5\/q=6\/q=7\/q=8\/q=9\/q=10\/q=11\/q=12\/q=13:=by omega
  rcases hcs with rfl|rfl|rfl|rfl|rfl|rfl|rfl|rfl|rfl|rfl|rfl|rfl|rfl|rfl
  ·obtain ⟨o,ho,hop,hg⟩:∃ o,A6[0]?=some o/\o.op=.move (.tmp 0)/\o.guard=none:=⟨_,rfl,rfl,rfl⟩;have e0:a.eval (.tmp 0)=.pointer (some ⟨bl,0,none⟩):=hA.base (by kernel_rfl) b0;exact λd=>u7 ho hg (by decide) (by rw [hop];rfl) hc (v:=.pointer (some ⟨bl,0,none⟩)) (λd=>(w8 hop e0)) (keep (by omega) _ (hA.put F6 ho rfl)) d
  ·obtain ⟨o,ho,hop,hg⟩:∃ o,A6[1]?=some o/\o.op=.nilCheck (.tmp 27)/\o.guard=none:=⟨_,rfl,rfl,rfl⟩;have e27:a.eval (.tmp 27)=.pointer (some ⟨bl,0,none⟩):=hA.tmp (j:=0) rfl rfl (Br.f9 hi rfl (by kernel_rfl)) (by omega) rfl;exact λd=>u7 ho hg (by decide) (by rw [hop];rfl) hc (v:=.pointer (some ⟨bl,0,none⟩)) (λd=>(by unfold execOp;simp only [hop,e27];go_simp)) (keep (by omega) _ (hA.put F6 ho rfl)) d
  ·obtain ⟨o,ho,hop,hg⟩:∃ o,A6[2]?=some o/\o.op=.fieldAddr 104 (.tmp 28) 1/\o.guard=none:=⟨_,rfl,rfl,rfl⟩;have e28:a.eval (.tmp 28)=.pointer (some ⟨bl,0,none⟩):=hA.tmp (j:=1) rfl rfl (Br.f9 hi rfl (by kernel_rfl)) (by omega) rfl;exact λd=>u7 ho hg (by decide) (by rw [hop];rfl) hc (v:=.pointer (some ⟨bl,1,none⟩)) (λd=>(by unfold execOp;simp only [hop,e28];go_simp)) (keep (by omega) _ (hA.put F6 ho rfl)) d
  ·obtain ⟨o,ho,hop,hg⟩:∃ o,A6[3]?=some o/\o.op=.load 102 (.tmp 29)/\o.guard=none:=⟨_,rfl,rfl,rfl⟩;have e29:a.eval (.tmp 29)=.pointer (some ⟨bl,1,none⟩):=hA.tmp (j:=2) rfl rfl (Br.f9 hi rfl (by kernel_rfl)) (by omega) rfl;exact λd=>u7 ho hg (by decide) (by rw [hop];rfl) hc (v:=.slice (some ⟨bu,0,none⟩) n n) (λd=>(by have y0:(w.at d).cell? _=_:=hS.k;have y1:(w.at d).cell? _=_:=hS.u;have y2:(w.at d).cell? _=_:=hS.x0;have y3:(w.at d).cell? _=_:=hS.x1;have y4:(w.at d).cell? _=_:=hS.x2;unfold execOp;simp only [hop,e29];go_simp)) (keep (by omega) _ (hA.put F6 ho rfl)) d
  ·obtain ⟨o,ho,hop,hg⟩:∃ o,A6[4]?=some o/\o.op=.move (.tmp 1)/\o.guard=none:=⟨_,rfl,rfl,rfl⟩;have e1:a.eval (.tmp 1)=.int .i64 p:=hA.base (by kernel_rfl) b1;exact λd=>u7 ho hg (by decide) (by rw [hop];rfl) hc (v:=.int .i64 p) (λd=>(w8 hop e1)) (keep (by omega) _ (hA.put F6 ho rfl)) d
  ·obtain ⟨o,ho,hop,hg⟩:∃ o,A6[5]?=some o/\o.op=.move (.tmp 0)/\o.guard=none:=⟨_,rfl,rfl,rfl⟩;have e0:a.eval (.tmp 0)=.pointer (some ⟨bl,0,none⟩):=hA.base (by kernel_rfl) b0;exact λd=>u7 ho hg (by decide) (by rw [hop];rfl) hc (v:=.pointer (some ⟨bl,0,none⟩)) (λd=>(w8 hop e0)) (keep (by omega) _ (hA.put F6 ho rfl)) d
  ·obtain ⟨o,ho,hop,hg⟩:∃ o,A6[6]?=some o/\o.op=.nilCheck (.tmp 32)/\o.guard=none:=⟨_,rfl,rfl,rfl⟩;have e32:a.eval (.tmp 32)=.pointer (some ⟨bl,0,none⟩):=hA.tmp (j:=5) rfl rfl (Br.f9 hi rfl (by kernel_rfl)) (by omega) rfl;exact λd=>u7 ho hg (by decide) (by rw [hop];rfl) hc (v:=.pointer (some ⟨bl,0,none⟩)) (λd=>(by unfold execOp;simp only [hop,e32];go_simp)) (keep (by omega) _ (hA.put F6 ho rfl)) d
  ·obtain ⟨o,ho,hop,hg⟩:∃ o,A6[7]?=some o/\o.op=.fieldAddr 104 (.tmp 33) 0/\o.guard=none:=⟨_,rfl,rfl,rfl⟩;have e33:a.eval (.tmp 33)=.pointer (some ⟨bl,0,none⟩):=hA.tmp (j:=6) rfl rfl (Br.f9 hi rfl (by kernel_rfl)) (by omega) rfl;exact λd=>u7 ho hg (by decide) (by rw [hop];rfl) hc (v:=.pointer (some ⟨bl,0,none⟩)) (λd=>(by unfold execOp;simp only [hop,e33];go_simp)) (keep (by omega) _ (hA.put F6 ho rfl)) d
  ·obtain ⟨o,ho,hop,hg⟩:∃ o,A6[8]?=some o/\o.op=.load 25 (.tmp 34)/\o.guard=none:=⟨_,rfl,rfl,rfl⟩;have e34:a.eval (.tmp 34)=.pointer (some ⟨bl,0,none⟩):=hA.tmp (j:=7) rfl rfl (Br.f9 hi rfl (by kernel_rfl)) (by omega) rfl;exact λd=>u7 ho hg (by decide) (by rw [hop];rfl) hc (v:=.pointer (some ⟨bk,0,none⟩)) (λd=>(by have y0:(w.at d).cell? _=_:=hS.k;have y1:(w.at d).cell? _=_:=hS.u;have y2:(w.at d).cell? _=_:=hS.x0;have y3:(w.at d).cell? _=_:=hS.x1;have y4:(w.at d).cell? _=_:=hS.x2;unfold execOp;simp only [hop,e34];go_simp)) (keep (by omega) _ (hA.put F6 ho rfl)) d
  ·obtain ⟨o,ho,hop,hg⟩:∃ o,A6[9]?=some o/\o.op=.move (.tmp 1)/\o.guard=none:=⟨_,rfl,rfl,rfl⟩;have e1:a.eval (.tmp 1)=.int .i64 p:=hA.base (by kernel_rfl) b1;exact λd=>u7 ho hg (by decide) (by rw [hop];rfl) hc (v:=.int .i64 p) (λd=>(w8 hop e1)) (keep (by omega) _ (hA.put F6 ho rfl)) d
  ·obtain ⟨o,ho,hop,hg⟩:∃ o,A6[10]?=some o/\o.op=.load 38 (.tmp 5)/\o.guard=none:=⟨_,rfl,rfl,rfl⟩;have e5:a.eval (.tmp 5)=.pointer (some ⟨bx,0,none⟩):=hA.base (by kernel_rfl) b5;exact λd=>u7 ho hg (by decide) (by rw [hop];rfl) hc (v:=.agg #[.int .i64 kd,.int .i64 A,.int .i64 B]) (λd=>(by have y0:(w.at d).cell? _=_:=hS.k;have y1:(w.at d).cell? _=_:=hS.u;have y2:(w.at d).cell? _=_:=hS.x0;have y3:(w.at d).cell? _=_:=hS.x1;have y4:(w.at d).cell? _=_:=hS.x2;unfold execOp;simp only [hop,e5];go_simp)) (keep (by omega) _ (hA.put F6 ho rfl)) d
  ·exact λd=>r11 f0 listed a rest d hO hA hi hoff
  ·exact (Br.B6 hi rfl (j:=11) (hoff 11 (by omega)) (by kernel_rfl)).elim
  ·exact (Br.B6 hi rfl (j:=11) (hoff 11 (by omega)) (by kernel_rfl)).elim
 ·exact absurd (Br.G9 (by kernel_rfl) hA2.1.len hr 11 (by show 11<14;omega)) (by rw [hA2.2 11 (by omega)];simp)
def a0W (U:Nat->Option OpD)(p:Nat)(o:OpD):Nat->Option OpD:=λq=>if q=p then some o else U q
noncomputable def a8K:Code :=
 match Tryd.f17.body with
 | some (.seq _ c)=>c
 | _=>.skip
noncomputable def b2P:Code :=
 match Tryd.f17.body with
 | some (.seq _ (.seq _ (.seq _ (.seq _ (.seq _ c)))))=>c
 | _=>.skip
theorem b9c {ops:Array Oper}{i:Nat}{o:Oper}{a:Act}{b:Frame}{rest:List Nat}{k:List Item}{cs:List Frame}{main:Bool}{sft:Nat->Nat}{Stop:Goroutine->World->Prop}{w:World}{x:Value}{ad:Addr}(ho:ops[i]?=some o)(hg:o.guard=none)(hk:b.kind≠.early)
  (hv:∀ d,(execOp a.eval o).run Tryd.prog (w.at d)=.ok .skip ((w.at d).setCell ad x))(he:∀ d,∀ e∈(execOp a.eval o).events Tryd.prog (w.at d) #[],e=⟨.cell ad,true,false⟩)(hs:sft ad.block<=ad.off)(hlt:ad.block<w.heap.size)
  (hn:∀ d,Must Tryd.prog main (DL true sft) Stop (G (b.at (a.put o.dst undef) (.inRegion ops rest::k)) cs) ((w.setCell ad x).at d))(d0:Nat) :
  Must Tryd.prog main (DL true sft) Stop (G (b.at a (.inRegion ops (i::rest)::k)) cs) (w.at d0) :=
 Br.t8 ho (by unfold Region.wanted;rw [hg]) hk (λd K' hK=>by
  rw [hv d]
  exact hK _ _ ⟨Br.Q7 (u:=w.at d) hs hlt (λe h=>he d e (mem_listed h)),hn d⟩) d0
section
variable {kb:Kb} {l:List OpD} {K:Ker} {L:Nat->Option Lv} {r:Nat} {Inb:Nat->Option Seat} {nG:Nat} {w w':World} {v:Lv} {Final:Machine->Trace->Prop} {b:Lb} {B0:Nat} {U:Nat->Option OpD} {V:Nat->Value} {N:Nat->Nat} {Xs:Nat->List Value}
theorem Mw.born {L':Nat->Option Lv}{k:Nat}{C:Ctx}{v':Lv}(h:Mw kb l L w k)(hk:Kp kb L w L' w')(hv:L' nG=some v')(hp:C.o.bo∈v'.pv):Mw kb (C.o::l) L' w' k :=
 ⟨(hk k h.mn).1,h.bk,h.tab,λo ho e=>by
  rcases List.mem_cons.1 ho with rfl|ho
  ·exact ((hk k h.mn).1.own nG v' hv).1 (e▸hp)
  ·exact h.rc o ho e⟩
theorem LibM0.born {n:Nat}{L':Nat->Option Lv}{C:Ctx}{v':Lv}(h:LibM0 kb l L w b n B0 U V N Xs)(hk:Kp kb L w L' w')(hv:L' nG=some v')(hp:C.o.bo∈v'.pv):LibM0 kb (C.o::l) L' w' b n B0 U V N Xs :=
 ⟨h.is.same (hk _ h.mbl.mn).2 (hk _ h.mbu.mn).2 (hk _ h.mbn.mn).2 (λp hp x hx=>(hk _ (h.mls p hp x hx).mn).2),h.mbl.born hk hv hp,h.mbu.born hk hv hp,h.mbn.born hk hv hp,λp hp' x hx=>(h.mls p hp' x hx).born hk hv hp,h.b0⟩
theorem b6v (co:Co kb l K L r Inb nG w)(lm:LibM kb l L w b K.nS B0 U V N Xs)(h0:0<nG){p:Nat}(hp:p<K.nS)(hU:U p=none)(kd A B:Int){bx:Nat}(hbx:Mn kb L w bx)(hX:w.heap[bx]?=some (.cells #[.int .i64 kd,.int .i64 A,.int .i64 B] 38 (0,0)))(fr:Frame)(cs:List Frame)
  (hbeg:∀ w' (C:Ctx) H Inb',C.slot=(p:Int)->C.kd=kd->C.A=A->C.B=B->OnK kb C->C.o.gid=nG->Co kb (C.o::l) K (ConcN.upd L nG (some ⟨C,A8 C p,[C.o.bo],H,[H6 C.o,bot]⟩)) r Inb' (nG+1) w'->(∀ k,Mn kb L w k->k≠b.bu->Mn kb (ConcN.upd L nG (some ⟨C,A8 C p,[C.o.bo],H,[H6 C.o,bot]⟩)) w' k/\w'.heap[k]?=w.heap[k]?)->LibM kb (C.o::l) (ConcN.upd L nG (some ⟨C,A8 C p,[C.o.bo],H,[H6 C.o,bot]⟩)) w' b K.nS B0 (a0W U p C.o) V N Xs->X Tryd.prog Final (C.o::l) Inb' (nG+1) 0 (G (fr.finish (.int .i64 0)) cs) w')(d0:Nat) :
  Must Tryd.prog true (DL true (sfO l)) (X Tryd.prog Final l Inb nG 0) (G ((base 17).at ⟨#[.pointer (some ⟨b.bl,0,none⟩),.int .i64 p,.agg #[.int .i64 kd,.int .i64 A,.int .i64 B],undef,undef,.pointer (some ⟨bx,0,none⟩),.int .i64 0,.pointer (some ⟨bx,0,none⟩),.int .i64 kd,.bool false,.bool false,.pointer (some ⟨bx,0,none⟩),.int .i64 kd,.bool false,.bool false,.pointer (some ⟨b.bl,0,none⟩),.int .i64 p,.bool true,.bool false,.pointer (some ⟨b.bl,0,none⟩),.pointer (some ⟨b.bl,0,none⟩),.pointer (some ⟨b.bl,1,none⟩),.slice (some ⟨b.bu,0,none⟩) K.nS K.nS,.int .i64 p,.pointer (some ⟨b.bu,p,none⟩),.pointer none,.bool false,undef,undef,undef,undef,undef,undef,undef,undef,undef,undef,undef,undef,undef],[]⟩ [.code (.region 7 A6 true),.code b2P]) (fr::cs)) (w.at d0):=by
 have hc:=co.env.fit.clear;have xc:∀ (j:Nat) (x:Value),(#[Value.int .i64 kd,.int .i64 A,.int .i64 B]:Array Value)[j]?=some x->w.cell? ⟨bx,j,none⟩=some x:=λj x h=>by simp only [World.cell?,hX];simpa using h
 have hS:BgS w b.bl b.bu kb.bk K.nS bx kd A B:=⟨lm.m.is.k0,lm.m.is.k1,xc 0 _ rfl,xc 1 _ rfl,xc 2 _ rfl⟩;refine a1y (λt d=>?_) d0;refine c0D (bl:=b.bl) (bu:=b.bu) (bk:=kb.bk) (n:=K.nS) (p:=p) (bx:=bx) (kd:=kd) (A:=A) (B:=B) rfl rfl rfl rfl hp hc hS _ _ (λfuel listed a rest d hO hA hi hoff=>?_) _ _ _ _ (Br.X8 (by kernel_rfl) A6 t) ⟨Br.Agr.start _ _ _,λj _=>I3 _ _⟩ d;have e35:a.eval (.tmp 35)=.pointer (some ⟨kb.bk,0,none⟩):=hA.tmp (j:=8) rfl rfl (Br.f9 hi rfl (by kernel_rfl)) (by simp) rfl;have e36:a.eval (.tmp 36)=.int .i64 p:=hA.tmp (j:=9) rfl rfl (Br.f9 hi rfl (by kernel_rfl)) (by simp) rfl;have e37:a.eval (.tmp 37)=.agg #[.int .i64 kd,.int .i64 A,.int .i64 B]:=hA.tmp (j:=10) rfl rfl (Br.f9 hi rfl (by kernel_rfl)) (by simp) rfl;refine Br.mc rfl (λu=>k6 rfl rfl (by decide) rfl Tryd.func41 rfl rfl (vs:=#[.pointer (some ⟨kb.bk,0,none⟩),.int .i64 p,.agg #[.int .i64 kd,.int .i64 A,.int .i64 B]]) (by simp [e35,e36,e37]) u) (λd=>?_) d;refine .stop ?_;refine b1g (co.at d) h0 hp kd A B _ _ (λw' C H Inb' c1 c2 c3 c4 c5 c6 c7 c8=>?_);obtain ⟨L',hL'⟩:∃ L',L'=ConcN.upd L nG (some (⟨C,A8 C p,[C.o.bo],H,[H6 C.o,bot]⟩:Lv)):=⟨_,rfl⟩;have hbeg':=hbeg;rw [← hL'] at c7 c8;have hLn:L' nG=some ⟨C,A8 C p,[C.o.bo],H,[H6 C.o,bot]⟩:=by rw [hL'];exact ConcN.upd_same _ _ _
 have c8':Kp kb L w L' w':=λk hM=>c8 k ⟨hM.lt,hM.nf,hM.ns,hM.nd,hM.own⟩;have lm':=lm.m.born c8' hLn (C:=C) (List.mem_singleton.2 rfl);have cl':=c7.env.fit.clear;have cu:w'.cell? ⟨b.bu,p,none⟩=some (.pointer none):=by have:=lm'.is.u.cell hp;simp only [hU] at this;exact this
 have zu:=lm'.is.u.frozen p;have hbx':=(c8' bx hbx).2;have yc:∀ (j:Nat) (x:Value),(#[Value.int .i64 kd,.int .i64 A,.int .i64 B]:Array Value)[j]?=some x->w'.cell? ⟨bx,j,none⟩=some x:=λj x h=>by rw [World.cell?_of_block (w:=w) hbx'];exact xc j x h
 have hS':BgS w' b.bl b.bu kb.bk K.nS bx kd A B:=⟨lm'.is.k0,lm'.is.k1,yc 0 _ rfl,yc 1 _ rfl,yc 2 _ rfl⟩;have o3:∀ k,k≠b.bu->(w'.setCell ⟨b.bu,p,none⟩ (pO C.o)).heap[k]?=w'.heap[k]?:=λk hk=>by rw [Br.heap_setCell,if_neg (λe=>hk e.symm)]
 have z3:(w'.setCell ⟨b.bu,p,none⟩ (pO C.o)).heap.size=w'.heap.size:=by simp [World.setCell]
 have cl3:Clear (w'.setCell ⟨b.bu,p,none⟩ (pO C.o)):=(Br.F5 cl'.lk (Nat.zero_le _) _).1.sight;have co3:Co kb (C.o::l) K L' r Inb' (nG+1) (w'.setCell ⟨b.bu,p,none⟩ (pO C.o)):=c7.wrote (by omega) cl3 (λk hk h=>o3 k (λe=>h (e▸lm'.mbu)));have u3:=lm'.is.u.set hp (pO C.o);obtain ⟨ne1,ne2,ne3,lb1,lb2,lb3⟩:=lm.m.is.ne;have lm3:LibM kb (C.o::l) L' (w'.setCell ⟨b.bu,p,none⟩ (pO C.o)) b K.nS B0 (a0W U p C.o) V N Xs:=by
  have lsne:∀ q,q<K.nS->∀ x,(V q).ownBlock=some x->x≠b.bu:=λq hq x hx=>by have:=(Z5 (lm'.is.own q hq) hx).1;omega
  refine ⟨⟨⟨(World.cell?_of_block (w:=w') (o3 _ ne1)).trans lm'.is.k0,(World.cell?_of_block (w:=w') (o3 _ ne1)).trans lm'.is.k1,(World.cell?_of_block (w:=w') (o3 _ ne1)).trans lm'.is.k2,?_,lm'.is.d.of (o3 _ (Ne.symm ne3)),λq hq=>N5 (lm'.is.own q hq) (λx hx=>o3 x (lsne q hq x hx)),lm'.is.far,lm'.is.ne,lm'.is.small⟩,lm'.mbl.grow (by omega),lm'.mbu.grow (by omega),lm'.mbn.grow (by omega),λq hq x hx=>(lm'.mls q hq x hx).grow (by omega),lm'.b0⟩,λq hq o' ho'=>?_⟩
  ·obtain ⟨c,t,a1,a2,a3⟩:=u3;refine ⟨c,t,a1,a2,λq hq=>?_⟩;rw [a3 q hq]
   by_cases e:q=p
   ·simp only [a0W,e,if_true];rfl
   ·simp only [a0W,e,if_false]
  ·by_cases e:q=p
   ·simp only [a0W,e,if_true] at ho';obtain rfl:=Option.some.inj ho';exact ⟨_,by rw [c6];exact hLn,rfl,by rw [e];exact c1⟩
   ·simp only [a0W,e,if_false] at ho';obtain ⟨u,hu,he,hs⟩:=lm.live q hq o' ho';have:=co.gid _ u hu;exact ⟨u,by rw [hL',ConcN.upd_ne _ _ (by omega)];exact hu,he,hs⟩
 have hx:∀ d,X Tryd.prog Final (C.o::l) Inb' (nG+1) 0 (G (fr.finish (.int .i64 0)) cs) ((w'.setCell ⟨b.bu,p,none⟩ (pO C.o)).at d):=λd=>by
  refine hbeg _ C H Inb' c1 c2 c3 c4 c5 c6 ?_ (λk hM hk=>?_) ?_
  ·rw [← hL'];exact co3.at d
  ·rw [← hL'];obtain ⟨m1,m2⟩:=c8' k hM;exact ⟨⟨by show k<_;rw [show ((w'.setCell ⟨b.bu,p,none⟩ (pO C.o)).at d).heap.size=w'.heap.size from z3];exact m1.lt,m1.nf,m1.ns,m1.nd,m1.own⟩,(o3 k hk).trans m2⟩
  ·rw [← hL'];exact lm3.grown ⟨Nat.le_refl _,λ_ _=>rfl,cl3⟩
 have bul:b.bu<w'.heap.size:=lm'.mbu.mn.lt;have sfu:sfO (C.o::l) b.bu=0:=lm'.mbu.sf;clear lm3 co3 c7 c8 hbeg hbeg';rw [Frame.finish_at];refine Br.a0m (st:=true) ?_;show Must Tryd.prog true (DL true (sfO (C.o::l))) _ _ (w'.at w'.drawn);obtain ⟨o,ho,hdst⟩:∃ o,A6[11]?=some o/\o.dst=some 38:=⟨_,rfl,rfl⟩
 have hA':=(hA.val (V':=bgV b.bl b.bu kb.bk K.nS p kd A B (pO C.o)) (λj hj=>by
  have hj11:j<11:=by
   rcases Nat.lt_or_ge j 11 with h|h
   ·exact h
   ·rw [hoff j h] at hj;cases hj
  have hcs:j=0\/j=1\/j=2\/j=3\/j=4\/j=5\/j=6\/j=7\/j=8\/j=9\/j=10:=by omega
  rcases hcs with rfl|rfl|rfl|rfl|rfl|rfl|rfl|rfl|rfl|rfl|rfl<;>rfl)).put F6 ho (v:=pO C.o) rfl
 rw [show (A6[11]?.bind λx=>x.dst)=o.dst from by rw [ho];rfl];refine c0C (bl:=b.bl) (bu:=b.bu) (bk:=kb.bk) (n:=K.nS) (p:=p) (bx:=bx) (kd:=kd) (A:=A) (B:=B) (w3:=w'.setCell ⟨b.bu,p,none⟩ (pO C.o)) rfl rfl rfl rfl hp cl' hS' (pO C.o) _ _ (λo a rest d ho hop hg e39 e38 hn=>?_) (λd=>?_) _ _ (a.put o.dst (pO C.o),w') _ hO ⟨hA',by rw [g8 (by omega),hoff 13 (by omega)];rfl,Br.P8 hi,λh=>(by rw [g8 (by omega),hoff 12 (by omega)] at h;cases h),λh=>(by rw [g8 (by omega),hoff 13 (by omega)] at h;cases h)⟩ _
 ·have hrun:∀ d,(execOp a.eval o).run Tryd.prog (w'.at d)=.ok .skip ((w'.at d).setCell ⟨b.bu,p,none⟩ (pO C.o))/\∀ e∈(execOp a.eval o).events Tryd.prog (w'.at d) #[],e=⟨.cell ⟨b.bu,p,none⟩,true,false⟩:=λd=>by
   have y1:(w'.at d).cell? ⟨b.bu,p,none⟩=some (.pointer none):=cu;have y2:(w'.at d).frozen? ⟨b.bu,p,none⟩=false:=zu;unfold execOp;simp only [hop,e39,e38];constructor
   ·go_simp
   ·intro e he;simp only [go_sem] at he;simp [go_sem] at he
    try rw [events_store _ _ _ _ _ _ rfl] at he
    first|rw [y1] at he|rw [cu] at he
    first|rw [y2] at he|rw [zu] at he
    simp only [Bool.false_eq_true,if_false,List.push_toArray,List.nil_append,List.mem_toArray,List.mem_cons,List.not_mem_nil,or_false] at he;exact he
  exact b9c ho hg (by decide) (λd=>(hrun d).1) (λd=>(hrun d).2) (by rw [sfu];exact Nat.zero_le _) bul hn d
 ·have hc:=cl3;rw [show Br.fill A6 (bgV b.bl b.bu kb.bk K.nS p kd A B (pO C.o)) #[.pointer (some ⟨b.bl,0,none⟩),.int .i64 p,.agg #[.int .i64 kd,.int .i64 A,.int .i64 B],undef,undef,.pointer (some ⟨bx,0,none⟩),.int .i64 0,.pointer (some ⟨bx,0,none⟩),.int .i64 kd,.bool false,.bool false,.pointer (some ⟨bx,0,none⟩),.int .i64 kd,.bool false,.bool false,.pointer (some ⟨b.bl,0,none⟩),.int .i64 p,.bool true,.bool false,.pointer (some ⟨b.bl,0,none⟩),.pointer (some ⟨b.bl,0,none⟩),.pointer (some ⟨b.bl,1,none⟩),.slice (some ⟨b.bu,0,none⟩) K.nS K.nS,.int .i64 p,.pointer (some ⟨b.bu,p,none⟩),.pointer none,.bool false,undef,undef,undef,undef,undef,undef,undef,undef,undef,undef,undef,undef,undef]=#[.pointer (some ⟨b.bl,0,none⟩),.int .i64 p,.agg #[.int .i64 kd,.int .i64 A,.int .i64 B],undef,undef,.pointer (some ⟨bx,0,none⟩),.int .i64 0,.pointer (some ⟨bx,0,none⟩),.int .i64 kd,.bool false,.bool false,.pointer (some ⟨bx,0,none⟩),.int .i64 kd,.bool false,.bool false,.pointer (some ⟨b.bl,0,none⟩),.int .i64 p,.bool true,.bool false,.pointer (some ⟨b.bl,0,none⟩),.pointer (some ⟨b.bl,0,none⟩),.pointer (some ⟨b.bl,1,none⟩),.slice (some ⟨b.bu,0,none⟩) K.nS K.nS,.int .i64 p,.pointer (some ⟨b.bu,p,none⟩),.pointer none,.bool false,.pointer (some ⟨b.bl,0,none⟩),.pointer (some ⟨b.bl,0,none⟩),.pointer (some ⟨b.bl,1,none⟩),.slice (some ⟨b.bu,0,none⟩) K.nS K.nS,.int .i64 p,.pointer (some ⟨b.bl,0,none⟩),.pointer (some ⟨b.bl,0,none⟩),.pointer (some ⟨b.bl,0,none⟩),.pointer (some ⟨kb.bk,0,none⟩),.int .i64 p,.agg #[.int .i64 kd,.int .i64 A,.int .i64 B],pO C.o,.pointer (some ⟨b.bu,p,none⟩)] from by kernel_rfl];generalize w'.setCell ⟨b.bu,p,none⟩ (pO C.o)=w3 at *;clear u3 o3 z3 hS' hS cu zu lm' c8' hA' hA;unfold b2P;simp only [Tryd.f17];refine Br.a9 (λd=>?_) _;refine Br.b8 (λd=>?_) _;refine Br.b9 (λd=>?_) _;simp only [Br.rz,Br.ix,Nat.reduceAdd];refine Br.mo rfl rfl λd K' hK=>?_;go_simp;refine hK _ _ ⟨rfl,?_⟩;clear hK K';refine Br.a9 (λd=>?_) _;refine Br.q8 (λd=>?_) _;exact Br.m8 (v:=.int .i64 0) rfl rfl Tryd.func17 (resultsC_tmp (t:=6) rfl _) (w:=w3) (λd=>.stop (hx d)) _
end
end Go.Proofs.YtcgabodkegcpgaaDoor
