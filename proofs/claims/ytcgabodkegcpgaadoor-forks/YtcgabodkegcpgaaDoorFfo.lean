/- Forks whole: from its entry to the run's end. -/
import Derived.Test.YtcgabodkegcpgaaDoorFkd
set_option linter.unusedVariables false
set_option linter.unusedSimpArgs false
set_option maxHeartbeats 20000000
set_option maxRecDepth 100000
namespace Go.Proofs.YtcgabodkegcpgaaDoor
open Go.Conc Go.RowKit
open Br (X OpD KO SO SP sfO Lk Fit Must DL Liv Clear)
section
variable {W:World} {kb:Kb} {b:Lb} {n:Nat} {cB nF nD:Nat} {code:Int}
abbrev c0t (W:World)(kb:Kb)(b:Lb)(n:Nat)(Final:Machine->Trace->Prop)(cs:List Frame):Prop :=
 ∀ l K Inb nG w V N Xs i a k,CI W kb b n i l K (λ_=>none) 0 Inb nG w (λ_=>none) V N Xs->Lvs 418 [(10,.bool true)] a->FL l (X Tryd.prog Final l Inb nG 0) a (.code .ret::k) cs w
theorem b8H {Final:Machine->Trace->Prop}{K K':Ker}{t:Nat}{fr:Nat->Int}{gv:Nat->Bool}{cd:Int}(S:Sole K)(C:Kid K t fr gv 2 cd K')(hK:K.nF<=32/\K.nS<=32/\K.nD<=32)(h2:2<=K.nS){l:List OpD}{Inb:Nat->Option Seat}{nG:Nat}{w:World}{V:Nat->Value}{N:Nat->Nat}{Xs:Nat->List Value}{i:Nat}(hi:i<=100)(ci:∀ r,CI W kb b n i l K' (λ_=>none) r Inb nG w (λ_=>none) V N Xs){kF kS kD b1 bd:Nat}(S1:SnapL kb b n l w V kF kS kD b1 K){c0 c1 c2 c3:Value}
  (hX:w.heap[bd]?=some (.cells #[c0,c1,c2,c3,.int .i64 1] 70 (0,0))){a:Act}(hA:Lvs 418 [(4,.int .i64 code),(12,.pointer (some ⟨kb.bk,0,none⟩)),(14,.pointer (some ⟨b.bl,0,none⟩)),(24,.pointer (some ⟨b1,0,none⟩)),(25,.pointer (some ⟨bd,0,none⟩))] a)(k:List Item)(cs:List Frame)(hx:c0t W kb b n Final cs) :
  FL l (X Tryd.prog Final l Inb nG 0) a (.code W6::k) cs w:=by
 have hn2:2<=n:=by have:=(ci 0).hn;have:=C.nS;omega
 obtain ⟨K1,C1,hC1⟩:=b8y S h2 C code;obtain ⟨K2,E2,hC2⟩:=b8z S h2 C1
 have hC3:T8 0 2 0 0 K2 (0+1) 0 11 K2:=b3h (by rw [E2.nS];omega) (by rw [E2.S 0 0 S.pos (by omega) (by unfold isB;omega)];exact S.rdy) (λi hi h=>by
  rw [E2.nS] at hi;rw [E2.S i 0 hi (by omega) (by unfold isB;omega)] at h;rcases Nat.lt_or_ge i 1 with h1|h1
  ·obtain rfl:i=0:=by omega
   rw [S.rdy] at h;exact absurd h.2 (by decide)
  ·rw [S.non i h1 hi] at h;exact absurd h.2 (by decide))
 refine c1v hX hA k cs λa1 hA1 d=>?_;obtain ⟨o,ho,hd⟩:∃ o,(n6 53)[5]?=some o/\o.dst=some 367:=⟨_,rfl,rfl⟩;refine W8 (p:=1) (m:=0) ((ci 0).grown (s9 w d)) (by omega) ((ci 0).grown (s9 w d)).lo (by omega) (by omega) (by omega) (by omega) hC1 _ _ (λl2 Inb2 nG2 w2 V2 N2 Xs2 ci2 lk2=>?_);rw [a0M ho,hd];refine K6 (c1w (ci2 0).co.env.fit (ci2 0).co.env.ko (hA1.putNe (d:=367) (by decide) _ rfl) k cs λa3 w3 hG3 hX3 hA3 d3=>?_);have l34:Loc kb b n l2 (λ_=>none) w3 V2 w2.heap.size _:=a0Z (ci2 0).co (ci2 0).lm (Nat.le_refl _) hX3;have S3:=(((S1.grown (s9 w d)).move lk2).grown hG3).grown (s9 w3 d3);obtain ⟨o',ho',hd'⟩:∃ o,(n6 54)[2]?=some o/\o.dst=some 373:=⟨_,rfl,rfl⟩;have ci3:=(ci2 0).grown (hG3.trans (s9 w3 d3));have le1:=a5R λj=>K1.S 1 (3+j*2);have le2:=a5R λj=>K1.S 1 (11+j*2);have le3:(pgs K1 1).length<=4:=le1;have le4:(fls K1 1).length<=4:=le2;refine W8 (p:=0) (m:=(pgs K1 1).length+(fls K1 1).length) ci3 (by omega) ci3.lo (by omega) (by omega) (by omega) (by omega) hC2 _ _ (λl4 Inb4 nG4 w4 V4 N4 Xs4 ci4 lk4=>?_);rw [a0M ho',hd'];have S4:=S3.move lk4;have l34b:=lk4 _ _ (l34.grown (s9 w3 d3));refine K6 (c1x (ci4 0) hK E2 S4 (hA3.putNe (d:=373) (by decide) _ rfl) k cs λa5 w5 hG5 hX5 hA5 d5=>?_);have l36:Loc kb b n l4 (λ_=>none) w5 V4 w4.heap.size _:=a0Z (ci4 0).co (ci4 0).lm (Nat.le_refl _) hX5;obtain ⟨o'',ho'',hd''⟩:∃ o,(n6 57)[2]?=some o/\o.dst=some 384:=⟨_,rfl,rfl⟩;have ci5:=(ci4 0).grown (hG5.trans (s9 w5 d5));refine W8 (p:=0) (m:=0) ci5 (by omega) ci5.lo (by omega) (by omega) (by omega) (by omega) hC3 _ _ (λl6 Inb6 nG6 w6 V6 N6 Xs6 ci6 lk6=>?_);rw [a0M ho'',hd''];refine K6 (c1y (ci6 0).co.env.fit (ci6 0).co.env.ko (lk6 _ _ ((l34b.grown hG5).grown (s9 w5 d5))).is (lk6 _ _ (l36.grown (s9 w5 d5))).is ((hA5.put (d:=384) (by decide) _).cut ⟨rfl,rfl,rfl,rfl,rfl,rfl,rfl,trivial⟩) k cs λa7 w7 hG7 hA7=>?_);exact hx _ _ _ _ _ _ _ _ _ _ _ ((ci6 0).grown hG7) hA7
theorem b8I {Final:Machine->Trace->Prop}{l:List OpD}{K:Ker}{Inb:Nat->Option Seat}{nG:Nat}{w:World}{V:Nat->Value}{N:Nat->Nat}{Xs:Nat->List Value}{had rings pi ri:Nat}(fi:FI W kb b n l K Inb nG w V N Xs cB nF nD had rings pi ri)(hh:had<=4)(hr:rings<=2)(hK:nF<=32/\n<=6/\nD<=4){a:Act}(hA:Lvs 418 [(4,.int .i64 code),(5,.pointer (some ⟨cB,0,none⟩)),(12,.pointer (some ⟨kb.bk,0,none⟩)),(14,.pointer (some ⟨b.bl,0,none⟩)),(15,.int .i64 had),(20,.int .i64 rings)] a)(k:List Item)(cs:List Frame)(hx:c0t W kb b n Final cs) :
  X Tryd.prog Final l Inb nG 0 (G ((base 7).at a (.code L4::k)) cs) w:=by
 have hn:=(fi.ci 0).hn;have hF:=fi.hF;have hD:=fi.hD;have hK2:K.nF<=32/\K.nS<=32/\K.nD<=32:=by omega
 have S:=fi.fk.sole;have pos:=S.pos;refine K6 (c1r (fi.ci 0).co hA k cs λa1 w1 gF gS gD b1 hG1 hSn1 g1 g2 g3 g4 hb1 hA1 d=>?_);have S1:=(a4R (fi.ci 0).co (fi.ci 0).lm hSn1 g1 g2 g3 g4 hb1).grown (s9 w1 d);have fi1:=fi.grown (hG1.trans (s9 w1 d));obtain ⟨o,ho,hd⟩:∃ o,(n6 33)[2]?=some o/\o.dst=some 184:=⟨_,rfl,rfl⟩;have st1:a1q K gF gS gD=#[.slice (some ⟨gF,0,none⟩) nF nF,.slice (some ⟨gS,0,none⟩) n n,.slice (some ⟨gD,0,none⟩) nD nD]:=by unfold a1q;rw [hF,hn,hD]
 rcases b8M fi.fk hh with ⟨hfull,m,K',hm,hC,E⟩|⟨h2,hroom,m,t,fr,gv,K',hm,C,hp,hg,hC⟩
 ·
  refine W8 (p:=0) (fi1.ci 0) (by omega) (fi1.ci 0).lo (by omega) (by omega) (by omega) hm hC _ _ (λl2 Inb2 nG2 w2 V2 N2 Xs2 ci2 lk2=>?_);rw [a0M ho,hd];refine K6 (c0a (ci2 0).co (hA1.putNe (d:=184) (by decide) _ rfl) k cs λa3 w3 kF kS kD b2 hX3 hG3 hSn3 k1 k2 k3 k4 hb3 hA3=>?_);have S3:=(S1.move lk2).grown hG3;have T3:=a4R (ci2 0).co (ci2 0).lm hSn3 k1 k2 k3 k4 hb3;have cf:=((lk2 _ _ fi1.loc).grown hG3).is;have fin:∀ a',Lvs 418 [(4,.int .i64 code),(5,.pointer (some ⟨cB,0,none⟩)),(12,.pointer (some ⟨kb.bk,0,none⟩)),(14,.pointer (some ⟨b.bl,0,none⟩)),(15,.int .i64 had),(20,.int .i64 rings),(24,.pointer (some ⟨b1,0,none⟩)),(25,.pointer (some ⟨w2.heap.size,0,none⟩)),(26,.bool true),(27,.pointer (some ⟨b2,0,none⟩))] a'->FL l2 (X Tryd.prog Final l2 Inb2 nG2 0) a' (.code (.seq (rf 36) (P2 37))::.code X1::k) cs w3:=λa' hA' =>
   b8C ((ci2 0).grown hG3).co hK2 E S3 T3 hX3 (hA'.cut ⟨rfl,rfl,rfl,rfl,trivial⟩) _ cs (λa5 w5 hG5 hA5=>hx _ _ _ _ _ _ _ _ _ _ _ (((ci2 0).grown hG3).grown hG5) hA5)
  rcases Nat.lt_or_ge n 2 with h2|h2
  ·exact c0o h2 cf hA3 k cs fin
  ·exact c0p h2 rfl rfl rfl hh hr (by omega) cf hA3 k cs fin
 ·
  refine W8 (p:=0) (fi1.ci 0) (by omega) (fi1.ci 0).lo (by omega) (by omega) (by omega) hm hC _ _ (λl2 Inb2 nG2 w2 V2 N2 Xs2 ci2 lk2=>?_);rw [a0M ho,hd];refine K6 (c0a (ci2 0).co (hA1.putNe (d:=184) (by decide) _ rfl) k cs λa3 w3 kF kS kD b2 hX3 hG3 hSn3 k1 k2 k3 k4 hb3 hA3=>?_);have S3:=(S1.move lk2).grown hG3;have cf:=((lk2 _ _ fi1.loc).grown hG3).is;have ci3:=(ci2 0).grown hG3;have eF:K'.nF=nF:=C.nF.trans hF;have eS:K'.nS=n:=C.nS.trans hn;have eD:K'.nD=nD:=C.nD.trans hD;have st2:a1q K' kF kS kD=#[.slice (some ⟨kF,0,none⟩) nF nF,.slice (some ⟨kS,0,none⟩) n n,.slice (some ⟨kD,0,none⟩) nD nD]:=by unfold a1q;rw [eF,eS,eD]
  rw [st2] at hb3;have hn2:2<=n:=by omega
  have r0:=y7 hSn3.s (o:=0) (m:=20) (by omega);have r1:=y7 hSn3.s (o:=20) (m:=20) (by omega);refine c0q hn2 rfl rfl rfl hh hr (by omega) cf hA3 k cs λa4 hA4=>?_;refine c1s (K:=K') ci3.co.env.fit ci3.co.env.ko hn2 cf hX3 hb3 r0 r1 (W0 hSn3.s) (Array.getElem?_eq_some_iff.1 hb3).1 (Array.getElem?_eq_some_iff.1 hX3).1 (hA4.cut ⟨rfl,rfl,rfl,rfl,rfl,rfl,rfl,rfl,trivial⟩) k cs λa5 w5 hG5 hm5 hi5 hA5=>?_;have rm:w5.rangeAt w3.heap.size 0 (cut (o0 K') 0 20):=P4 hm5;have ri:w5.rangeAt (w3.heap.size+1) 0 (cut (o0 K') 20 20):=P4 hi5;have S5:=S3.grown hG5;have Sn5:Snap w5 kF kS kD K':=hSn3.same λj hj=>hG5.old j (by rcases hj with rfl|rfl|rfl;exact W0 hSn3.f;exact W0 hSn3.s;exact W0 hSn3.d);have hb1':=S5.lb.is;rw [st1] at hb1';have c0:w5.cell? ⟨w3.heap.size+1,0,none⟩=some (.int .i64 2):=by
   rw [W3 ri (by omega),show 20+0=1*20+0 by omega,B3 _ _ _ (by omega) (by omega),C.s0]
  have c1:w5.cell? ⟨w3.heap.size+1,1,none⟩=some (.int .i64 0):=by
   rw [W3 ri (by omega),show 20+1=1*20+1 by omega,B3 _ _ _ (by omega) (by omega),C.s1]
  refine c1t (FL1:=cut (o0 K') (20+11) 8) (FL2:=cut (o0 K') (0+11) 8) (S1:=cut (o0 K') 0 20) (S2:=cut (o0 K) 0 20) hn2 hb1' c0 c1 (a8t ri (by omega)) (a8t rm (by omega)) (A5 _ _ _) (A5 _ _ _) (by rw [show (20+11:Nat)=31 from rfl,show (0+11:Nat)=11 from rfl,b3p S C hg];exact b5j K' 0) rm (y7 S5.snap.s (o:=0) (m:=20) (by omega)) (A5 _ _ _) (A5 _ _ _) (by rw [c0v C];exact b5T K 0) hA5 k cs λa6 hA6=>?_;refine b5V (nD':=nD) (nD'':=nD) S C hp eF ((hG5.old _ (Array.getElem?_eq_some_iff.1 cf).1).trans cf) rm ri Sn5.f (by have:=S5.snap.f;rw [C.nF];exact this) ((hG5.old _ (Array.getElem?_eq_some_iff.1 hb3).1).trans hb3) hb1' k cs (λa7 hA7=>?_) 4 0 (by omega) a6 hA6;exact b8H S C hK2 h2 (i:=had+rings+1) (by omega) (λr=>((ci2 r).grown hG3).grown hG5) S5 ((hG5.old _ (Array.getElem?_eq_some_iff.1 hX3).1).trans hX3) (hA7.cut ⟨rfl,rfl,rfl,rfl,rfl,trivial⟩) k cs hx
end
theorem b3i (W:World)(T:Tab W)(x y z:Int)(hx:-9223372036854775808<=x/\x<9223372036854775808)(hy:-9223372036854775808<=y/\y<9223372036854775808)(hz:-9223372036854775808<=z/\z<9223372036854775808)(pa wa fa:Option Addr)(ps:List Bool)(ws:List Int)(fs:List Bool)(pc wc fc:Nat)(code:Int)(hP:a5E W pa ps)(hW:a8E W wa ws)(hFs:a5E W fa fs) :
  ∃ N last o w' t',runNT Tryd.prog (N+1) (solo (G (Frame.enter Tryd.prog 7 #[.agg #[.int .i64 x,.int .i64 y,.int .i64 z],.slice pa ps.length pc,.slice wa ws.length wc,.slice fa fs.length fc,.int .i64 code] .normal) []) W) #[]=(.ended o w',t')/\runN Tryd.prog N (solo (G (Frame.enter Tryd.prog 7 #[.agg #[.int .i64 x,.int .i64 y,.int .i64 z],.slice pa ps.length pc,.slice wa ws.length wc,.slice fa fs.length fc,.int .i64 code] .normal) []) W)=.next last/\step Tryd.prog last=.ended o w' /\
   Go.Conc.Good Tryd.prog (λv w'=>(v=.bool true/\W.heap.size<=w'.heap.size/\∀ k,k<W.heap.size->w'.heap[k]?=W.heap[k]?)/\Br.a5v W w') last o w' t':=by
 obtain ⟨a,e,hA⟩:=b6q (.agg #[.int .i64 x,.int .i64 y,.int .i64 z]) (.slice pa ps.length pc) (.slice wa ws.length wc) (.slice fa fs.length fc) (.int .i64 code);rw [e];refine b6w (Post:=λv w'=>v=.bool true/\W.heap.size<=w'.heap.size/\∀ k,k<W.heap.size->w'.heap[k]?=W.heap[k]?) (K6 ?_);refine c2e T hx hy hz hA [] [] (λa1 w1 kb b hG1 hlt hX1 q1 q2 q3 q4 hco hlm hbu hA1=>?_);have px:=V1 x (n:=31) (by decide);have py:=V1 y (n:=6) (by decide);have pz:=V1 z (n:=5) (by decide);have bF:2<=2+v8 x 31/\2+v8 x 31<=32:=by omega
 have bS:1<=1+v8 y 6/\1+v8 y 6<=6:=by omega
 generalize 2+v8 x 31=nF,1+v8 y 6=n,v8 z 5=nD at *;have s1:=hG1.size;have ci0:∀ r,CI W kb b n 0 [] (D7 nF n nD) (λ_=>none) r (λ_=>none) 1 w1 (λ_=>none) (λ_=>.slice none 0 0) (λ_=>0) (λ_=>[]):=λr=>by
  refine ⟨hco r,rfl,hlm,by omega,λp q o hp hq e=>(by cases e),λg v h=>(by cases h),λ_ _=>Nat.le_refl _,λp hp x hx=>(by cases hx),λk hk=>⟨⟨Nat.lt_of_lt_of_le hk s1,by omega,by omega,by omega,λg v h=>(by cases h)⟩,hG1.old k hk⟩,?_,by omega,by omega⟩;have:=hlm.m.is.ne;omega
 have hout:c0t W kb b n (b1j Tryd.prog (λv w'=>v=.bool true/\W.heap.size<=w'.heap.size/\∀ k,k<W.heap.size->w'.heap[k]?=W.heap[k]?)) []:=λl K Inb nG w V N Xs i a k ci hA=>by
  refine Br.q8 ?_;refine λd=>.stop ?_;have h4:a.tmps.getD 10 undef=.bool true:=by
   have:=hA.at (t:=10) rfl;simp [this]
  have hres:ResultsC Tryd.prog Tryd.f7 a.tmps (.bool true):=by
   rw [← h4];exact resultsC_tmp (by kernel_rfl) _
  exact c1J (v:=.bool true) rfl (λd'=>b0Y rfl hA.defers Tryd.func7 (by kernel_rfl) hres) (λd'=>⟨rfl,ci.lo,λk hk=>(ci.old k hk).2⟩) (λi hi=>ci.co.none i hi rfl)
 have fi0:FI W kb b n [] (D7 nF n nD) (λ_=>none) 1 w1 (λ_=>.slice none 0 0) (λ_=>0) (λ_=>[]) W.heap.size nF nD 0 0 0 0:=by
  refine ⟨ci0,c0u nF n nD (by omega) (by omega) (by omega),⟨⟨⟨hlt,by omega,by omega,by omega,λg v h=>(by cases h)⟩,by omega,?_,λo ho=>(by cases ho)⟩,hX1,?_,by omega,by omega,λp hp e=>(by cases e)⟩,rfl,rfl⟩
  ·have:=T.lt;omega
  ·have:=hlm.m.is.ne;omega
 refine λd=>.stop ?_;refine b5Q hW hP (by omega) [] [] (λl2 K2 Inb2 nG2 w2 V2 N2 Xs2 a2 had i fi2 hh hA2=>?_) 4 0 (by omega) 0 (by omega) _ _ _ _ _ _ _ _ a1 (fi0.grown (s9 w1 d)) hA1;refine c1g (hA2.cut ⟨rfl,rfl,rfl,rfl,rfl,rfl,trivial⟩) [] [] λa3 hA3 d3=>.stop ?_;refine b5S hFs (by omega) hh [] [] (λl4 K4 Inb4 nG4 w4 V4 N4 Xs4 a4 rings j fi4 hr hA4=>λd4=>.stop ?_) 2 0 (by omega) 0 (by omega) _ _ _ _ _ _ _ _ a3 (fi2.grown (s9 w2 d3) |> λh=>⟨h.ci,⟨h.fk.sole,h.fk.free,h.fk.pg,h.fk.pn,h.fk.dn,h.fk.fn⟩,h.loc,h.hF,h.hD⟩) hA3;exact b8I (fi4.grown (s9 w4 d4)) hh hr (by omega) hA4 [] [] hout
end Go.Proofs.YtcgabodkegcpgaaDoor
