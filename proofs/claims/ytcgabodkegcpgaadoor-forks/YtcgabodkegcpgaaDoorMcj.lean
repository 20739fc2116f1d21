/- Pick: what has ended is noted. -/
import Derived.Test.YtcgabodkegcpgaaDoorMcg
set_option linter.unusedVariables false
set_option linter.unusedSimpArgs false
set_option maxHeartbeats 20000000
set_option maxRecDepth 100000
namespace Go.Proofs.YtcgabodkegcpgaaDoor
open Go.Conc Go.RowKit
open Br (X OpD KO SO SP sfO Lk Fit Must DL Liv Clear)
noncomputable def E5:Array Oper :=
 match Tryd.f18.body with
 | some (.seq _ (.seq _ (.seq _ (.seq _ (.seq _ (.seq _ (.seq (.region _ ops _) _)))))))=>ops
 | _=>#[]
theorem L6:Br.a0R E5=true:=by kernel_rfl
section
variable {P:Program} {Q:Exit->Act->World->Prop} {ops:Array Oper} {i:Nat} {o:Oper} {a:Act} {rest:List Nat} {w w':World} {v:Value}
theorem E3 (ho:ops[i]?=some o)(hg:o.guard=none)(hr:(execOp a.eval o).run P w=.ok (.value v) w')(h:wpOps P ops Q rest (a.put o.dst v) w'):wpOps P ops Q (i::rest) a w:=by
 rw [wpOps_cons];unfold wpOp;simp only [ho];rw [if_pos (by unfold Region.wanted;rw [hg])];refine .inl ?_;unfold Oper.wp;rw [hr];exact h
theorem b9a (ho:ops[i]?=some o)(hg:o.guard=none)(hr:(execOp a.eval o).run P w=.ok .skip w')(h:wpOps P ops Q rest (a.put o.dst undef) w'):wpOps P ops Q (i::rest) a w:=by
 rw [wpOps_cons];unfold wpOp;simp only [ho];rw [if_pos (by unfold Region.wanted;rw [hg])];refine .inl ?_;unfold Oper.wp;rw [hr];exact h
end
def ent (kd A B e x:Int):List Value:=[.int .i64 kd,.int .i64 A,.int .i64 B,.int .i64 e,.int .i64 x]
def pkV (bl bn n p bo n1 g m cap:Nat)(Vp:Value)(es:List Value):Nat->Value
 | 0=>.pointer (some ⟨bl,0,none⟩)|1=>.pointer (some ⟨bl,0,none⟩)|2=>.pointer (some ⟨bl,2,none⟩)|3=>.slice (some ⟨bn,0,none⟩) n n|4=>.int .i64 p
 | 5=>.pointer (some ⟨bl,0,none⟩)|6=>.pointer (some ⟨bl,0,none⟩)|7=>.pointer (some ⟨bl,2,none⟩)|8=>.slice (some ⟨bn,0,none⟩) n n|9=>.int .i64 p
 | 10=>.pointer (some ⟨bn,p,none⟩)|11=>Vp|12=>.pointer (some ⟨bo,0,none⟩)|13=>.pointer (some ⟨bo,0,none⟩)|14=>.pointer (some ⟨bo,5,none⟩)|15=>.agg es.toArray
 | 16=>.slice (some ⟨n1,0,none⟩) 1 1|17=>.slice (some ⟨g,0,none⟩) m cap|18=>.pointer (some ⟨bn,p,none⟩)|_=>undef
structure PkS (w:World) (bl bn n p bo:Nat) (kd A B er va:Int) (Vp:Value):Prop where
 l:w.cell? ⟨bl,2,none⟩=some (.slice (some ⟨bn,0,none⟩) n n)
 d:w.cell? ⟨bn,p,none⟩=some Vp
 r:∀ j x,(ent kd A B er va)[j]?=some x->w.cell? ⟨bo,5+j,none⟩=some x
def WlP (w0 w1 w2 w3:World)(listed:Array Bool):World:=if listed.getD 19 false then w3 else if listed.getD 17 false then w2 else if listed.getD 16 false then w1 else w0
theorem b6u {w0 w1 w2 w3:World}{listed:Array Bool}{i:Nat}(h6:i≠16)(h7:i≠17)(h9:i≠19):WlP w0 w1 w2 w3 (listed.setIfInBounds i true)=WlP w0 w1 w2 w3 listed:=by
 unfold WlP;rw [g8 h6,g8 h7,g8 h9]
theorem b3C {bl bn n p bo n1 g m cap:Nat}{kd A B er va:Int}{Vp:Value}{tb:Array Value}(hsz:tb.size=47)(b0:tb[0]?=some (.pointer (some ⟨bl,0,none⟩)))(b1:tb[1]?=some (.int .i64 p))(b6:tb[6]?=some (.pointer (some ⟨bo,0,none⟩)))(hp:p<n){w0 w1 w2 w3:World}{Q:Exit->Act->World->Prop}
  (s0:PkS w0 bl bn n p bo kd A B er va Vp)(s1:PkS w1 bl bn n p bo kd A B er va Vp)(s2:PkS w2 bl bn n p bo kd A B er va Vp)
  (r16:∀ (o:Oper) (a:Act),o.op=.buildSlice 65 1 #[(0,.tmp 43)]->a.eval (.tmp 43)=.agg (ent kd A B er va).toArray->(execOp a.eval o).run Tryd.prog w0=.ok (.value (.slice (some ⟨n1,0,none⟩) 1 1)) w1)
  (r17:∀ (o:Oper) (a:Act),o.op=.call { callee:=.builtin .append,args:=#[.tmp 39,.tmp 44],argTypes:=#[65,65] }->o.type=65->a.eval (.tmp 39)=Vp->a.eval (.tmp 44)=.slice (some ⟨n1,0,none⟩) 1 1->(execOp a.eval o).run Tryd.prog w1=.ok (.value (.slice (some ⟨g,0,none⟩) m cap)) w2)
  (r19:∀ (o:Oper) (a:Act),o.op=.store 65 (.tmp 46) (.tmp 45)->a.eval (.tmp 46)=.pointer (some ⟨bn,p,none⟩)->a.eval (.tmp 45)=.slice (some ⟨g,0,none⟩) m cap->(execOp a.eval o).run Tryd.prog w2=.ok .skip w3)
  (hfin:Q .normal ⟨Br.fill E5 (pkV bl bn n p bo n1 g m cap Vp (ent kd A B er va)) tb,[]⟩ w3) :
  ∀ fuel listed (aw:Act × World) rest,Br.Ord E5 fuel listed rest->(Br.Agr E5 (pkV bl bn n p bo n1 g m cap Vp (ent kd A B er va)) tb listed aw.1/\aw.2=WlP w0 w1 w2 w3 listed/\(listed.getD 18 false=true->∀ j,j<=17->listed.getD j false=true)/\(listed.getD 19 false=true->listed.getD 18 false=true)/\(listed.getD 17 false=true->listed.getD 16 false=true))->wpOps Tryd.prog E5 Q rest aw.1 aw.2:=by
 have i0:(0:Int)<=(p:Int):=by omega
 have i1:(p:Int)<(n:Int):=by omega
 refine a3V (J:=λ(aw:Act × World) rest=>wpOps Tryd.prog E5 Q rest aw.1 aw.2) (λf0 listed aw q rest hi hA2 hO hIH=>?_) (λlisted aw hr hA2=>?_)
 ·obtain ⟨a,w⟩:=aw;obtain ⟨hA,hw,h18,h19,h176⟩:=hA2;simp only at hA hw;have Hw:Hid (w=WlP w0 w1 w2 w3 listed):=hw;clear hw;have no19:q<=18->listed.getD 19 false=false:=λhq=>by
   cases e:listed.getD 19 false with
   | false=>rfl
   | true =>
    have e18:=h19 e;rcases Nat.lt_or_ge q 18 with h|h
    ·exact (Br.v9 hi (h18 e18 q (by omega))).elim
    ·obtain rfl:q=18:=by omega
     exact (Br.v9 hi e18).elim
  have hS:q<=18->PkS w bl bn n p bo kd A B er va Vp:=λhq=>by
   rw [Hw.out];unfold WlP;rw [no19 hq];simp only [Bool.false_eq_true,if_false];split
   ·exact s2
   ·split
    ·exact s1
    ·exact s0
  have keep:q<=15\/q=18->(q=18->∀ j,j<=17->listed.getD j false=true)->∀ a',Br.Agr E5 (pkV bl bn n p bo n1 g m cap Vp (ent kd A B er va)) tb (listed.setIfInBounds q true) a'->wpOps Tryd.prog E5 Q rest a' w:=λhq h18q a' h=>hIH (a',w) ⟨h,by rw [b6u (by omega) (by omega) (by omega)];exact Hw.out,λh1 j hj=>(by
    by_cases e:q=18
    ·exact Br.C0 (h18q e j hj)
    ·rw [g8 e] at h1;exact Br.C0 (h18 h1 j hj)),λh1=>(by rw [g8 (by omega),no19 (by omega)] at h1;cases h1),λh1=>by rw [g8 (by omega)] at h1 ⊢;exact h176 h1⟩
  have hlt:=Br.G8 hi;have hz:E5.size=20:=by kernel_rfl
  rw [hz] at hlt;have hcs:q=0\/q=1\/q=2\/q=3\/q=4\/q=5\/q=6\/q=7\/q=8\/q=9\/q=10\/q=11\/q=12\/q=13\/q=14\/q=15\/q=16\/q=17\/q=18\/q=19:=by omega
  rcases hcs with rfl|rfl|rfl|rfl|rfl|rfl|rfl|rfl|rfl|rfl|rfl|rfl|rfl|rfl|rfl|rfl|rfl|rfl|rfl|rfl
  ·obtain ⟨o,ho,hop,hg⟩:∃ o,E5[0]?=some o/\o.op=.move (.tmp 0)/\o.guard=none:=⟨_,rfl,rfl,rfl⟩;have e0:a.eval (.tmp 0)=.pointer (some ⟨bl,0,none⟩):=hA.base (by kernel_rfl) b0;exact E3 ho hg (v:=.pointer (some ⟨bl,0,none⟩)) (w':=w) (w8 hop e0) (keep (by omega) (λe=>by omega) _ (hA.put L6 ho rfl))
  ·obtain ⟨o,ho,hop,hg⟩:∃ o,E5[1]?=some o/\o.op=.nilCheck (.tmp 28)/\o.guard=none:=⟨_,rfl,rfl,rfl⟩;have e28:a.eval (.tmp 28)=.pointer (some ⟨bl,0,none⟩):=hA.tmp (j:=0) rfl rfl (Br.f9 hi rfl (by kernel_rfl)) (by omega) rfl;exact E3 ho hg (v:=.pointer (some ⟨bl,0,none⟩)) (w':=w) (by unfold execOp;simp only [hop,e28];go_simp) (keep (by omega) (λe=>by omega) _ (hA.put L6 ho rfl))
  ·obtain ⟨o,ho,hop,hg⟩:∃ o,E5[2]?=some o/\o.op=.fieldAddr 104 (.tmp 29) 2/\o.guard=none:=⟨_,rfl,rfl,rfl⟩;have e29:a.eval (.tmp 29)=.pointer (some ⟨bl,0,none⟩):=hA.tmp (j:=1) rfl rfl (Br.f9 hi rfl (by kernel_rfl)) (by omega) rfl;exact E3 ho hg (v:=.pointer (some ⟨bl,2,none⟩)) (w':=w) (by unfold execOp;simp only [hop,e29];go_simp) (keep (by omega) (λe=>by omega) _ (hA.put L6 ho rfl))
  ·obtain ⟨o,ho,hop,hg⟩:∃ o,E5[3]?=some o/\o.op=.load 64 (.tmp 30)/\o.guard=none:=⟨_,rfl,rfl,rfl⟩;have e30:a.eval (.tmp 30)=.pointer (some ⟨bl,2,none⟩):=hA.tmp (j:=2) rfl rfl (Br.f9 hi rfl (by kernel_rfl)) (by omega) rfl;obtain ⟨s1',s2',s3'⟩:=hS (by omega);exact E3 ho hg (v:=.slice (some ⟨bn,0,none⟩) n n) (w':=w) (by unfold execOp;simp only [hop,e30];go_simp;try rfl) (keep (by omega) (λe=>by omega) _ (hA.put L6 ho rfl))
  ·obtain ⟨o,ho,hop,hg⟩:∃ o,E5[4]?=some o/\o.op=.move (.tmp 1)/\o.guard=none:=⟨_,rfl,rfl,rfl⟩;have e1:a.eval (.tmp 1)=.int .i64 p:=hA.base (by kernel_rfl) b1;exact E3 ho hg (v:=.int .i64 p) (w':=w) (w8 hop e1) (keep (by omega) (λe=>by omega) _ (hA.put L6 ho rfl))
  ·obtain ⟨o,ho,hop,hg⟩:∃ o,E5[5]?=some o/\o.op=.move (.tmp 0)/\o.guard=none:=⟨_,rfl,rfl,rfl⟩;have e0:a.eval (.tmp 0)=.pointer (some ⟨bl,0,none⟩):=hA.base (by kernel_rfl) b0;exact E3 ho hg (v:=.pointer (some ⟨bl,0,none⟩)) (w':=w) (w8 hop e0) (keep (by omega) (λe=>by omega) _ (hA.put L6 ho rfl))
  ·obtain ⟨o,ho,hop,hg⟩:∃ o,E5[6]?=some o/\o.op=.nilCheck (.tmp 33)/\o.guard=none:=⟨_,rfl,rfl,rfl⟩;have e33:a.eval (.tmp 33)=.pointer (some ⟨bl,0,none⟩):=hA.tmp (j:=5) rfl rfl (Br.f9 hi rfl (by kernel_rfl)) (by omega) rfl;exact E3 ho hg (v:=.pointer (some ⟨bl,0,none⟩)) (w':=w) (by unfold execOp;simp only [hop,e33];go_simp) (keep (by omega) (λe=>by omega) _ (hA.put L6 ho rfl))
  ·obtain ⟨o,ho,hop,hg⟩:∃ o,E5[7]?=some o/\o.op=.fieldAddr 104 (.tmp 34) 2/\o.guard=none:=⟨_,rfl,rfl,rfl⟩;have e34:a.eval (.tmp 34)=.pointer (some ⟨bl,0,none⟩):=hA.tmp (j:=6) rfl rfl (Br.f9 hi rfl (by kernel_rfl)) (by omega) rfl;exact E3 ho hg (v:=.pointer (some ⟨bl,2,none⟩)) (w':=w) (by unfold execOp;simp only [hop,e34];go_simp) (keep (by omega) (λe=>by omega) _ (hA.put L6 ho rfl))
  ·obtain ⟨o,ho,hop,hg⟩:∃ o,E5[8]?=some o/\o.op=.load 64 (.tmp 35)/\o.guard=none:=⟨_,rfl,rfl,rfl⟩;have e35:a.eval (.tmp 35)=.pointer (some ⟨bl,2,none⟩):=hA.tmp (j:=7) rfl rfl (Br.f9 hi rfl (by kernel_rfl)) (by omega) rfl;obtain ⟨s1',s2',s3'⟩:=hS (by omega);exact E3 ho hg (v:=.slice (some ⟨bn,0,none⟩) n n) (w':=w) (by unfold execOp;simp only [hop,e35];go_simp;try rfl) (keep (by omega) (λe=>by omega) _ (hA.put L6 ho rfl))
  ·obtain ⟨o,ho,hop,hg⟩:∃ o,E5[9]?=some o/\o.op=.move (.tmp 1)/\o.guard=none:=⟨_,rfl,rfl,rfl⟩;have e1:a.eval (.tmp 1)=.int .i64 p:=hA.base (by kernel_rfl) b1;exact E3 ho hg (v:=.int .i64 p) (w':=w) (w8 hop e1) (keep (by omega) (λe=>by omega) _ (hA.put L6 ho rfl))
  ·obtain ⟨o,ho,hop,hg⟩:∃ o,E5[10]?=some o/\o.op=.indexAddr 64 (.tmp 36) (.tmp 37)/\o.guard=none:=⟨_,rfl,rfl,rfl⟩;have e36:a.eval (.tmp 36)=.slice (some ⟨bn,0,none⟩) n n:=hA.tmp (j:=8) rfl rfl (Br.f9 hi rfl (by kernel_rfl)) (by omega) rfl;have e37:a.eval (.tmp 37)=.int .i64 p:=hA.tmp (j:=9) rfl rfl (Br.f9 hi rfl (by kernel_rfl)) (by omega) rfl;exact E3 ho hg (v:=.pointer (some ⟨bn,p,none⟩)) (w':=w) (by unfold execOp;simp only [hop,e36,e37];go_simp) (keep (by omega) (λe=>by omega) _ (hA.put L6 ho rfl))
  ·obtain ⟨o,ho,hop,hg⟩:∃ o,E5[11]?=some o/\o.op=.load 65 (.tmp 38)/\o.guard=none:=⟨_,rfl,rfl,rfl⟩;have e38:a.eval (.tmp 38)=.pointer (some ⟨bn,p,none⟩):=hA.tmp (j:=10) rfl rfl (Br.f9 hi rfl (by kernel_rfl)) (by omega) rfl;obtain ⟨s1',s2',s3'⟩:=hS (by omega);exact E3 ho hg (v:=Vp) (w':=w) (by unfold execOp;simp only [hop,e38];go_simp;try rfl) (keep (by omega) (λe=>by omega) _ (hA.put L6 ho rfl))
  ·obtain ⟨o,ho,hop,hg⟩:∃ o,E5[12]?=some o/\o.op=.move (.tmp 6)/\o.guard=none:=⟨_,rfl,rfl,rfl⟩;have e6:a.eval (.tmp 6)=.pointer (some ⟨bo,0,none⟩):=hA.base (by kernel_rfl) b6;exact E3 ho hg (v:=.pointer (some ⟨bo,0,none⟩)) (w':=w) (w8 hop e6) (keep (by omega) (λe=>by omega) _ (hA.put L6 ho rfl))
  ·obtain ⟨o,ho,hop,hg⟩:∃ o,E5[13]?=some o/\o.op=.nilCheck (.tmp 40)/\o.guard=none:=⟨_,rfl,rfl,rfl⟩;have e40:a.eval (.tmp 40)=.pointer (some ⟨bo,0,none⟩):=hA.tmp (j:=12) rfl rfl (Br.f9 hi rfl (by kernel_rfl)) (by omega) rfl;exact E3 ho hg (v:=.pointer (some ⟨bo,0,none⟩)) (w':=w) (by unfold execOp;simp only [hop,e40];go_simp) (keep (by omega) (λe=>by omega) _ (hA.put L6 ho rfl))
  ·obtain ⟨o,ho,hop,hg⟩:∃ o,E5[14]?=some o/\o.op=.fieldAddr 111 (.tmp 41) 5/\o.guard=none:=⟨_,rfl,rfl,rfl⟩;have e41:a.eval (.tmp 41)=.pointer (some ⟨bo,0,none⟩):=hA.tmp (j:=13) rfl rfl (Br.f9 hi rfl (by kernel_rfl)) (by omega) rfl;exact E3 ho hg (v:=.pointer (some ⟨bo,5,none⟩)) (w':=w) (by unfold execOp;simp only [hop,e41];go_simp) (keep (by omega) (λe=>by omega) _ (hA.put L6 ho rfl))
  ·obtain ⟨o,ho,hop,hg⟩:∃ o,E5[15]?=some o/\o.op=.load 70 (.tmp 42)/\o.guard=none:=⟨_,rfl,rfl,rfl⟩;have e42:a.eval (.tmp 42)=.pointer (some ⟨bo,5,none⟩):=hA.tmp (j:=14) rfl rfl (Br.f9 hi rfl (by kernel_rfl)) (by omega) rfl;obtain ⟨s1',s2',s3'⟩:=hS (by omega);have y0:=s3' 0 _ rfl;have y1:=s3' 1 _ rfl;have y2:=s3' 2 _ rfl;have y3:=s3' 3 _ rfl;have y4:=s3' 4 _ rfl;exact E3 ho hg (v:=.agg (ent kd A B er va).toArray) (w':=w) (by unfold execOp;simp only [hop,e42];go_simp;try rfl) (keep (by omega) (λe=>by omega) _ (hA.put L6 ho rfl))
  ·obtain ⟨o,ho,hop,hg⟩:∃ o,E5[16]?=some o/\o.op=.buildSlice 65 1 #[(0,.tmp 43)]/\o.guard=none:=⟨_,rfl,rfl,rfl⟩;have e43:a.eval (.tmp 43)=.agg (ent kd A B er va).toArray:=hA.tmp (j:=15) rfl rfl (Br.f9 hi rfl (by kernel_rfl)) (by omega) rfl;have f16:=M4 hi;have f17:listed.getD 17 false=false:=by
    cases e:listed.getD 17 false with
    | false=>rfl
    | true=>rw [h176 e] at f16;cases f16
   have hw0:w=w0:=by rw [Hw.out];unfold WlP;rw [no19 (by omega),f17,f16];rfl
   subst hw0;exact E3 ho hg (r16 o a hop e43) (hIH (_,w1) ⟨hA.put L6 ho rfl,by unfold WlP;rw [g8 (by omega),g8 (by omega),no19 (by omega),f17,Br.P8 hi];rfl,λh1 j hj=>(by rw [g8 (by omega)] at h1;exact Br.C0 (h18 h1 j hj)),λh1=>(by rw [g8 (by omega),no19 (by omega)] at h1;cases h1),λ_=>Br.P8 hi⟩)
  ·obtain ⟨o,ho,hop,hty,hg⟩:∃ o,E5[17]?=some o/\o.op=.call { callee:=.builtin .append,args:=#[.tmp 39,.tmp 44],argTypes:=#[65,65] }/\o.type=65/\o.guard=none:=⟨_,rfl,rfl,rfl,rfl⟩;have e39:a.eval (.tmp 39)=Vp:=hA.tmp (j:=11) rfl rfl (Br.f9 hi rfl (by kernel_rfl)) (by omega) rfl;have e44:a.eval (.tmp 44)=.slice (some ⟨n1,0,none⟩) 1 1:=hA.tmp (j:=16) rfl rfl (Br.f9 hi rfl (by kernel_rfl)) (by omega) rfl;have f17:=M4 hi;have f16:listed.getD 16 false=true:=Br.f9 hi rfl (by kernel_rfl);have hw1:w=w1:=by rw [Hw.out];unfold WlP;rw [no19 (by omega),f17,f16];rfl
   subst hw1;exact E3 ho hg (r17 o a hop hty e39 e44) (hIH (_,w2) ⟨hA.put L6 ho rfl,by unfold WlP;rw [g8 (by omega),no19 (by omega),Br.P8 hi];rfl,λh1 j hj=>(by rw [g8 (by omega)] at h1;exact Br.C0 (h18 h1 j hj)),λh1=>(by rw [g8 (by omega),no19 (by omega)] at h1;cases h1),λ_=>Br.C0 f16⟩)
  ·obtain ⟨o,ho,hop,hg⟩:∃ o,E5[18]?=some o/\o.op=.indexAddr 64 (.tmp 31) (.tmp 32)/\o.guard=none:=⟨_,rfl,rfl,rfl⟩;have e31:a.eval (.tmp 31)=.slice (some ⟨bn,0,none⟩) n n:=hA.tmp (j:=3) rfl rfl (Br.f9 hi rfl (by kernel_rfl)) (by omega) rfl;have e32:a.eval (.tmp 32)=.int .i64 p:=hA.tmp (j:=4) rfl rfl (Br.f9 hi rfl (by kernel_rfl)) (by omega) rfl;exact E3 ho hg (v:=.pointer (some ⟨bn,p,none⟩)) (w':=w) (by unfold execOp;simp only [hop,e31,e32];go_simp) (keep (by omega) (λ_ j hj=>by (have hcs:j=0\/j=1\/j=2\/j=3\/j=4\/j=5\/j=6\/j=7\/j=8\/j=9\/j=10\/j=11\/j=12\/j=13\/j=14\/j=15\/j=16\/j=17:=by omega);rcases hcs with rfl|rfl|rfl|rfl|rfl|rfl|rfl|rfl|rfl|rfl|rfl|rfl|rfl|rfl|rfl|rfl|rfl|rfl<;>exact Br.f9 hi rfl (by kernel_rfl)) _ (hA.put L6 ho rfl))
  ·obtain ⟨o,ho,hop,hg⟩:∃ o,E5[19]?=some o/\o.op=.store 65 (.tmp 46) (.tmp 45)/\o.guard=none:=⟨_,rfl,rfl,rfl⟩;have e46:a.eval (.tmp 46)=.pointer (some ⟨bn,p,none⟩):=hA.tmp (j:=18) rfl rfl (Br.f9 hi rfl (by kernel_rfl)) (by omega) rfl;have e45:a.eval (.tmp 45)=.slice (some ⟨g,0,none⟩) m cap:=hA.tmp (j:=17) rfl rfl (Br.f9 hi rfl (by kernel_rfl)) (by omega) rfl;have f19:=M4 hi;have f17:listed.getD 17 false=true:=Br.f9 hi rfl (by kernel_rfl);have hw2:w=w2:=by rw [Hw.out];unfold WlP;rw [f19,f17];rfl
   subst hw2;have f18:listed.getD 18 false=true:=Br.f9 hi rfl (by kernel_rfl);exact b9a ho hg (r19 o a hop e46 e45) (hIH (_,w3) ⟨hA.put L6 ho rfl,by unfold WlP;rw [Br.P8 hi];rfl,λh1 j hj=>Br.C0 (h18 f18 j hj),λh1=>Br.C0 f18,λh1=>Br.C0 (h176 f17)⟩)
 ·obtain ⟨a,w⟩:=aw;obtain ⟨hA,hw,h18,h19,h176⟩:=hA2;simp only at hA hw;have hall:=Br.G9 (by kernel_rfl) hA.len hr;have hz:E5.size=20:=by kernel_rfl
  obtain rfl:=hA.full hall;have e:w=w3:=by rw [hw];unfold WlP;rw [hall 19 (by omega)];rfl
  subst e;exact hfin
end Go.Proofs.YtcgabodkegcpgaaDoor
namespace Go.Proofs.YtcgabodkegcpgaaDoor
open Go.Conc Go.RowKit
open Br (OpD KO SO SP sfO Lk Fit Must DL Liv Clear X)
structure Mw (kb:Kb) (l:List OpD) (L:Nat->Option Lv) (w:World) (k:Nat):Prop where
 mn:Mn kb L w k
 bk:k≠kb.bk
 tab:k≠0
 rc:∀ o∈l,o.bo≠k
section
variable {kb:Kb} {l:List OpD} {K:Ker} {L:Nat->Option Lv} {r:Nat} {Inb:Nat->Option Seat} {nG:Nat} {w w':World} {v:Lv} {Final:Machine->Trace->Prop}
theorem Co.wrote (co:Co kb l K L r Inb nG w)(hsz:w.heap.size<=w'.heap.size)(hcl:Clear w')(hk:∀ k,k<w.heap.size->¬ Mw kb l L w k->w'.heap[k]?=w.heap[k]?):Co kb l K L r Inb nG w':=by
 have R:=co.env.rep;have hb:w'.heap[kb.bk]?=w.heap[kb.bk]?:=hk _ R.lk (λh=>h.bk rfl);have hf:w'.heap[kb.bf]?=w.heap[kb.bf]?:=hk _ R.lf (λh=>h.mn.nf rfl);have hs:w'.heap[kb.bs]?=w.heap[kb.bs]?:=hk _ R.ls (λh=>h.mn.ns rfl);have hd:w'.heap[kb.bd]?=w.heap[kb.bd]?:=hk _ R.ld (λh=>h.mn.nd rfl);have h0:w'.heap[0]?=w.heap[0]?:=hk _ co.env.tab.lt (λh=>h.tab rfl);have ho:∀ o∈l,w'.heap[o.bo]?=w.heap[o.bo]?:=λo ho=>hk _ (Br.KO.lt co.env.ko ho) (λh=>h.rc o ho rfl)
 have E:b2c kb l K w':=⟨R.same hsz (λk _ h=>by rcases h with rfl|rfl|rfl|rfl<;>assumption),co.env.tab.same h0,co.env.inv,⟨λi hi=>by
  obtain ⟨o,ho',rfl⟩:=Br.b1s hi;obtain ⟨c,t,h⟩:=co.env.fit.soft _ hi
  exact ⟨c,t,by rw [ho o ho'];exact h⟩,hcl⟩,λo ho'=>by
  obtain ⟨c,t,h1,h2⟩:=co.env.ko o ho'
  exact ⟨c,t,by rw [ho o ho'];exact h1,h2⟩,co.env.ap⟩
 refine ⟨E,co.top,co.gid,co.onk,λg v hv=>?_,co.wait,co.seat,co.none,λs c h1 h2=>Nat.lt_of_lt_of_le (co.main0 s c h1 h2) hsz,λg v hv c hc=>?_,co.chne,co.pvch,co.apart⟩
 ·obtain ⟨f,n,A⟩:=co.at_ g v hv;exact ⟨f,n,A.other ((co.onk g v hv).env E) λi hi=>hk i (A.lt hi) (λh=>(h.mn.own g v hv).1 hi)⟩
 ·obtain ⟨⟨cap,k,h1⟩,h2⟩:=co.chan g v hv c hc;exact ⟨⟨cap,k,by rw [hk c (co.ch_lt hv hc) (λh=>(h.mn.own g v hv).2 hc)];exact h1⟩,h2⟩
theorem Mn.grow {k:Nat}(h:Mn kb L w k)(hsz:w.heap.size<=w'.heap.size):Mn kb L w' k:=⟨Nat.lt_of_lt_of_le h.lt hsz,h.nf,h.ns,h.nd,h.own⟩
theorem Mw.grow {k:Nat}(h:Mw kb l L w k)(hsz:w.heap.size<=w'.heap.size):Mw kb l L w' k:=⟨h.mn.grow hsz,h.bk,h.tab,h.rc⟩
theorem Co.new (co:Co kb l K L r Inb nG w){k:Nat}(h1:w.heap.size<=k)(h2:k<w'.heap.size):Mw kb l L w' k:=by
 have R:=co.env.rep;have lk:kb.bk<w.heap.size:=R.lk;have lf:kb.bf<w.heap.size:=R.lf;have ls:kb.bs<w.heap.size:=R.ls;have ld:kb.bd<w.heap.size:=R.ld;have l0:0<w.heap.size:=co.env.tab.lt;exact ⟨⟨h2,by omega,by omega,by omega,λg v hv=>⟨λhi=>by have:=co.pv_lt hv hi;omega,λhc=>by have:=co.ch_lt hv hc;omega⟩⟩,by omega,by omega,λo ho e=>by have:=Br.KO.lt co.env.ko ho;omega⟩
theorem Z4 {sft:Nat->Nat}{v w:World}(h:Lk sft v w){b:Nat}(hz:sft b=0)(hs:(∃ c t f,w.heap[b]?=some (.cells c t f))\/∃ c t f,v.heap[b]?=some (.cells c t f)):v.heap[b]?=w.heap[b]?:=by
 rcases hs with ⟨c,t,f,e⟩|⟨c,t,f,e⟩
 ·rw [h.heap,hz,e];rfl
 ·have e':=h.heap b;rw [e,hz] at e'
  cases ew:w.heap[b]? with
  | none=>rw [ew] at e';cases e'
  | some o =>
   rw [ew,Option.map_some] at e';rw [e,e',Br.a1s (Br.a6h (Option.some.inj e').symm trivial)]
theorem Mw.sf {k:Nat}(h:Mw kb l L w k):sfO l k=0:=Br.G6 h.rc
end
theorem N5 {w w':World}{base e size n:Nat}{v:Value}{xs:List Value}(h:w.ownsRow base e size v n xs)(hg:∀ g,v.ownBlock=some g->w'.heap[g]?=w.heap[g]?):w'.ownsRow base e size v n xs:=by
 obtain ⟨h1,h2⟩:=h;refine ⟨h1,h2.imp id ?_⟩;rintro ⟨g,cap,cur,rfl,a1,a2,a3⟩;exact ⟨g,cap,cur,rfl,a1,by rw [hg g rfl];exact a2,a3⟩
theorem Z5 {w:World}{base e size n:Nat}{v:Value}{xs:List Value}(h:w.ownsRow base e size v n xs){g:Nat}(hg:v.ownBlock=some g):base<=g/\g<w.heap.size:=by
 obtain ⟨h1,⟨rfl,_⟩|⟨g',cap,cur,rfl,a1,a2,a3⟩⟩:=h
 ·cases hg
 ·obtain rfl:g'=g:=Option.some.inj hg;exact ⟨a1,(Array.getElem?_eq_some_iff.1 a2).1⟩
theorem a3p {w:World}{base e size n:Nat}{v:Value}{xs:List Value}(h:w.ownsRow base e size v n xs){g:Nat}(hg:v.ownBlock=some g):∃ c t f,w.heap[g]?=some (.cells c t f):=by
 obtain ⟨h1,⟨rfl,_⟩|⟨g',cap,cur,rfl,a1,a2,a3⟩⟩:=h
 ·cases hg
 ·obtain rfl:g'=g:=Option.some.inj hg;exact ⟨_,_,_,a2⟩
theorem X2.cells {w:World}{b n:Nat}{f:Nat->Value}(h:X2 w b n f):∃ c t f,w.heap[b]?=some (.cells c t f):=by
 obtain ⟨c,t,e,_⟩:=h;exact ⟨c,t,_,e⟩
theorem b3D {n:Nat}(h:n<=4398046511104):Builtin.nextslicecap (n+1) n*40<=281474976710656:=by
 have:Builtin.nextslicecap (n+1) n<=7036874417766:=by
  unfold Builtin.nextslicecap;split
  ·omega
  ·split
   ·omega
   ·rw [growBy_four]
    repeat' split
    all_goals omega
 omega
theorem b3E:∃ i z,Tryd.prog.info? 70=some i/\i.zero=some z/\i.size=5/\i.bytes=40/\z.cells.size=5:=by
 have h:(Tryd.prog.info? 70).map (λi=>(i.size,i.bytes,i.zero.map (·.cells.size)))=some (5,40,some 5):=by kernel_rfl
 obtain ⟨i,hi,hb⟩:=Option.map_eq_some_iff.1 h;obtain ⟨h1,h2,h3⟩:i.size=5/\i.bytes=40/\i.zero.map (·.cells.size)=some 5:=by
  injection hb with a b
  injection b with b c
  exact ⟨a,b,c⟩
 obtain ⟨z,hz,hzs⟩:=Option.map_eq_some_iff.1 h3;exact ⟨i,z,hi,hz,h1,h2,hzs⟩
theorem b9b {v:World}{bl bn n p bo B0 N:Nat}{kd A B er va:Int}{Vp:Value}{V:Nat->Value}{Xp:List Value}{tb:Array Value}(hsz:tb.size=47)(b0:tb[0]?=some (.pointer (some ⟨bl,0,none⟩)))(b1:tb[1]?=some (.int .i64 p))(b6:tb[6]?=some (.pointer (some ⟨bo,0,none⟩)))(hp:p<n)
  (S:PkS v bl bn n p bo kd A B er va Vp)(hr:X2 v bn n V)(hown:v.ownsRow B0 70 5 Vp N Xp)(hN:N<=4398046511104)(hB:bn<B0/\bl<B0)(hB0:B0<=v.heap.size)(hbo:Vp.ownBlock≠some bo) :
  (Code.region 9 E5 true).wp Tryd.prog (λe a' v'=>e=.normal/\∃ g cap n1,a'=⟨Br.fill E5 (pkV bl bn n p bo n1 g (N+1) cap Vp (ent kd A B er va)) tb,[]⟩/\v.heap.size<=v'.heap.size/\(∀ k,k<v.heap.size->k≠bn->Vp.ownBlock≠some k->v'.heap[k]?=v.heap[k]?)/\X2 v' bn n (λq=>if q=p then .slice (some ⟨g,0,none⟩) (N+1) cap else V q)/\v'.ownsRow B0 70 5 (.slice (some ⟨g,0,none⟩) (N+1) cap) (N+1) (Xp ++ ent kd A B er va)/\(Vp.ownBlock=some g\/v.heap.size<=g)) ⟨tb,[]⟩ v:=by
 obtain ⟨i,z,hi,hz,h5,h40,hzs⟩:=b3E;have lbl:bl<v.heap.size:=cell_lt S.l;have lbn:bn<v.heap.size:=cell_lt S.d;have lbo:bo<v.heap.size:=cell_lt (S.r 0 _ rfl);generalize hw0:({ v with drawn:=v.drawn+1 }:World)=w0;have h0:w0.heap=v.heap:=by rw [← hw0]
 generalize hw1:w0.alloc (.cells (ent kd A B er va).toArray 70 (0,0))=w1;have z0:w0.heap.size=v.heap.size:=by rw [h0]
 have o1:∀ k,k<v.heap.size->w1.heap[k]?=v.heap[k]?:=λk hk=>by rw [← hw1,Below.heap_alloc w0 _ k (by omega),h0]
 have z1:w1.heap.size=v.heap.size+1:=by rw [← hw1];simp [z0]
 have n1:w1.heap[v.heap.size]?=some (.cells (ent kd A B er va).toArray 70 (0,0)):=by rw [← hw1,← z0];exact heap_alloc_new w0 _
 have own1:w1.ownsRow B0 70 5 Vp N Xp:=N5 hown (λg hg=>o1 g (Z5 hown hg).2)
 obtain ⟨g,cap,w2,hrun,own2,gr2,hg2⟩:=App.run_append_one (P:=Tryd.prog) w1 B0 65 65 70 i z 5 40 Tryd.underlying65 hi hz h5 h40 hzs Vp N Xp own1 ⟨v.heap.size,0,none⟩ 1 (ent kd A B er va) rfl (λj u hu=>by
   rw [Addr.add_mid,Nat.zero_add];simp only [World.cell?,n1]
   simpa using hu) (λu hu=>by simp [ent] at hu;rcases hu with rfl|rfl|rfl|rfl|rfl<;>rfl) (by simp only [maxLen];omega) (b3D hN) (by omega)
 have o2:∀ k,k<v.heap.size->Vp.ownBlock≠some k->w2.heap[k]?=v.heap[k]?:=λk hk h=>by rw [gr2.block k (by omega) (λe=>h e.symm),o1 k hk]
 have z2:v.heap.size<=w2.heap.size:=by have:=gr2.size;omega
 have ge:B0<=g:=(Z5 own2 rfl).1;have vbl:Vp.ownBlock≠some bl:=λe=>by have:=(Z5 hown e).1;omega
 have vbn:Vp.ownBlock≠some bn:=λe=>by have:=(Z5 hown e).1;omega
 have keepS:∀ w':World,w'.heap[bl]?=v.heap[bl]?->w'.heap[bn]?=v.heap[bn]?->w'.heap[bo]?=v.heap[bo]?->PkS w' bl bn n p bo kd A B er va Vp:=λw' e1 e2 e3 =>
  ⟨(World.cell?_of_block (w:=v) e1).trans S.l,(World.cell?_of_block (w:=v) e2).trans S.d,λj x hx=>(World.cell?_of_block (w:=v) e3).trans (S.r j x hx)⟩
 have s0:=keepS w0 (by rw [h0]) (by rw [h0]) (by rw [h0]);have s1:=keepS w1 (o1 _ lbl) (o1 _ lbn) (o1 _ lbo);have s2:=keepS w2 (o2 _ lbl vbl) (o2 _ lbn vbn) (o2 _ lbo hbo);have row2:X2 w2 bn n V:=hr.of (o2 _ lbn vbn);refine wp_region_draw λt=>?_;rw [hw0];refine b3C (n1:=v.heap.size) (g:=g) (m:=N+1) (cap:=cap) hsz b0 b1 b6 hp s0 s1 s2 (w3:=w2.setCell ⟨bn,p,none⟩ (.slice (some ⟨g,0,none⟩) (N+1) cap)) (λo a hop he=>?_) (λo a hop hty e39 e44=>?_) (λo a hop e46 e45=>?_) ?_ _ _ (⟨tb,[]⟩,w0) _ (Br.X8 (by kernel_rfl) E5 t) ⟨Br.Agr.start _ _ _,?_,λh=>?_,λh=>?_,λh=>?_⟩
 ·rw [← hw1,← z0];unfold ent at *;unfold execOp;simp only [hop,List.map_toArray,List.map_cons,List.map_nil,he];go_simp
 ·unfold execOp;simp only [hop,resolve,invoke,builtin,Sem.run_bind,Sem.run_pure,Result.andThen_ok,List.map_toArray,List.map_cons,List.map_nil,e39,e44,hty,hrun]
 ·have y1:=row2.cell hp;have y2:=row2.frozen p;unfold execOp;simp only [hop,e46,e45];go_simp
 ·refine ⟨rfl,g,cap,v.heap.size,rfl,by simp [World.setCell];exact z2,λk hk h1 h2=>?_,row2.set hp _,?_,hg2.imp id (λe=>by omega)⟩
  ·rw [Br.heap_setCell,if_neg (λe=>h1 e.symm)];exact o2 k hk h2
  ·refine N5 own2 (λg' hg'=>?_);obtain rfl:g=g':=Option.some.inj hg';rw [Br.heap_setCell,if_neg (λe=>by have e':bn=g:=e;omega)]
 ·show w0=WlP _ _ _ _ _;unfold WlP;rw [I3,I3,I3];rfl
 ·rw [I3] at h;cases h
 ·rw [I3] at h;cases h
 ·rw [I3] at h;cases h
end Go.Proofs.YtcgabodkegcpgaaDoor
