/- The operation's heap of frames: heap.Pop in company, out of its lone contract. -/
import Derived.Test.YtcgabodkegcpgaaDoorOpj
import Derived.Test.YtcgabodkegcpgaaDoorSao
import Derived.Deep.QuietTactic
import Derived.BigQuiet
set_option linter.unusedVariables false
set_option linter.unusedSimpArgs false
set_option maxHeartbeats 20000000
set_option maxRecDepth 100000
namespace Go.Proofs.YtcgabodkegcpgaaDoor
open Go.Conc Go.RowKit
open Br (OpD KO SO SP sfO Lk Fit Must DL Liv Clear)
def J0 (xs:List Int)(i j:Nat):List Int:=(xs.set i (xs.getD j 0)).set j (xs.getD i 0)
def K7:Nat->List Int->Nat->Nat->List Int
 | 0,xs,_,_=>xs
 | f+1,xs,i,n =>
  if n<=2*i+1 then xs else
  let j:=if 2*i+2<n/\xs.getD (2*i+2) 0<xs.getD (2*i+1) 0 then 2*i+2 else 2*i+1
  if xs.getD j 0<xs.getD i 0 then K7 f (J0 xs i j) j n else xs
def K8 (xs:List Int):List Int:=(K7 xs.length (J0 xs 0 (xs.length - 1)) 0 (xs.length - 1)).take (xs.length - 1)
def b0p (c:Array Value)(xs:List Int):Prop:=∀ (i:Nat) (x:Int),xs[i]?=some x->c[i]?=some (.int .i64 x)
def Z8:Prop:=∀ (v:World) (p:Addr) (b cap:Nat) (c:Array Value) (t:TypeId) (xs:List Int),p.spot=none->p.block≠b->xs≠[]->xs.length<=40->xs.length<=cap->v.cell? p=some (.slice (some ⟨b,0,none⟩) xs.length cap)->v.frozen? p=false->v.heap[b]?=some (.cells c t (0,0))->b0p c xs ->
 Calls Tryd.prog 94 #[.iface 129 (.pointer (some p))] v (λe v'=>(∃ x,e=.returned x)/\∃ c',b0p c' (K8 xs)/\(K8 xs).length=xs.length - 1/\v.heap.size<=v'.heap.size/\v'.heap[b]?=some (.cells c' t (0,0))/\v'.heap[p.block]?=(v.setCell p (.slice (some ⟨b,0,none⟩) (xs.length - 1:Nat) cap)).heap[p.block]? /\
  ∀ k,k<v.heap.size->k≠b->k≠p.block->v'.heap[k]?=v.heap[k]?)
section
variable {C:Ctx} {n:Nat} {s:q7} {pv:List Nat} {H:w9} {free:Value} {go:Bool}
theorem At.chg {l:List OpD}{K:Ker}{un:Bool}{w:World}(A:At C l K pv H free un go w){w':World}{b:Nat}(hb:b≠C.o.bo)(hbp:b∈pv)(hR:Rep w' C.bk C.bf C.bs C.bd K)(hF:Fit (sfO l) w')(hsz:w.heap.size<=w'.heap.size)(hk:∀ k,k<w.heap.size->k≠b->k≠C.o.bo->w'.heap[k]?=w.heap[k]?){x:Obj}(hx:w'.heap[b]?=some x)
  {t:TypeId}{free':Value}(hr:w'.heap[C.o.bo]?=some (.cells (I5 C 0 0 free' un go) t (0,0))):At C l K pv ((H.set b x).set C.o.bo (.cells (I5 C 0 0 free' un go) t (0,0))) free' un go w':=by
 have hlt:∀ i∈pv,i<w.heap.size:=λi hi=>(Array.getElem?_eq_some_iff.1 (A.has i hi)).1;obtain ⟨b0,b1,b2,b3,b4⟩:=A.own.ap b hbp;refine ⟨⟨hR,A.env.tab.same (hk 0 A.env.tab.lt (Ne.symm b4) (Ne.symm (A.env.ap _ A.mem).2.2.2.2)),A.env.inv,hF,λo ho=>?_,A.env.ap⟩,A.mem,A.own,λi hi=>?_,⟨t,w9.set_same _ _ _⟩,A.top,A.far⟩
 ·by_cases e:o.bo=C.o.bo
  ·obtain ⟨c,t',h0,h1,h2,h3⟩:=A.env.ko o ho;obtain ⟨t2,hb0⟩:=A.blk;rw [e,hb0] at h0;obtain ⟨rfl,rfl,_⟩:=Obj.cells.inj (Option.some.inj h0);exact ⟨I5 C 0 0 free' un go,t,by rw [e];exact hr,h1,h2,h3⟩
  ·obtain ⟨c,t',h0,h1⟩:=A.env.ko o ho;exact ⟨c,t',by rw [hk _ (Br.KO.lt A.env.ko ho) (A.far b hbp hb o ho) e];exact h0,h1⟩
 ·by_cases e:i=C.o.bo
  ·subst e;rw [w9.set_same];exact hr
  ·rw [w9.set_other _ _ e]
   by_cases e':i=b
   ·subst e';rw [w9.set_same];exact hx
   ·rw [w9.set_other _ _ e',hk i (hlt i hi) e' e];exact A.has i hi
def Fr (fb:Option Nat)(pv:List Nat)(H:w9)(free:Value)(xs:List Int):Prop:=∃ sl:Sl,sl.blk=fb/\free=sl.val/\sl.xs=xs/\sl.ok pv H
theorem a4i (hspec:Z8){fb:Option Nat}{xs:List Int}(hF:Fr fb pv H free xs)(hx:xs≠[])(fr:Frame)(cs:List Frame)
  (hn:∀ H' free' x,Fr fb pv H' free' (K8 xs)->(∀ i∈pv,some i≠fb->H' i=H i)->o9 C n s pv H' free' go (G (fr.finish x) cs)) :
  o9 C n s pv H free go (G (Frame.enter Tryd.prog 94 #[.iface 129 (.pointer (some ⟨C.o.bo,10,none⟩))] .normal) (fr::cs)):=by
 obtain ⟨sl,rfl,rfl,rfl,hok⟩:=hF;obtain ⟨b,c,t,h1,h2,h3,h4⟩:=hok.2.resolve_left hx;have hlen:=hok.1;have hv:sl.val=.slice (some ⟨b,0,none⟩) sl.xs.length sl.cap:=by simp [Sl.val,h1]
 refine X7 (R:=λpv' H' free' g'=>∃ x c',pv'=pv/\H'=H.set b (.cells c' t (0,0))/\b0p c' (K8 sl.xs)/\(K8 sl.xs).length=sl.xs.length - 1/\free'=.slice (some ⟨b,0,none⟩) (sl.xs.length - 1:Nat) sl.cap/\g'=G (fr.finish x) cs) (λl K un w Stop St h d=>?_) ?_
 ·obtain ⟨H',A,hH⟩:=St;obtain ⟨z1,z2,z3⟩:=A.env.zero;have hbo:b≠C.o.bo:=(hH b h2).1;have hbH:w.heap[b]?=some (.cells c t (0,0)):=by rw [A.has b (List.mem_cons_of_mem _ h2),(hH b h2).2,h3]
  have hsb:sfO l b=0:=Br.G6 λo ho=>A.far b (List.mem_cons_of_mem _ h2) hbo o ho;obtain ⟨t2,hrow⟩:=A.blk
  refine (Br.S8 Br.a3j (sft:=sfO l) (w0:=w.at d) (by kernel_rfl) ⟨A.env.fit.soft,A.env.fit.clear⟩ false (Q:=λx v'=>∃ v c',Lk (sfO l) v (w.at d)/\b0p c' (K8 sl.xs)/\(K8 sl.xs).length=sl.xs.length - 1/\v.heap.size<=v'.heap.size/\v'.heap[b]?=some (.cells c' t (0,0)) /\
    v'.heap[C.o.bo]?=(v.setCell ⟨C.o.bo,10,none⟩ (.slice (some ⟨b,0,none⟩) (sl.xs.length - 1:Nat) sl.cap)).heap[C.o.bo]?/\∀ k,k<v.heap.size->k≠b->k≠C.o.bo->v'.heap[k]?=v.heap[k]?)
   (λv hv'=>(hspec v ⟨C.o.bo,10,none⟩ b sl.cap c t sl.xs rfl (Ne.symm hbo) hx (by omega) (by omega) ?_ ?_ ?_ h4).mono λe v' he=>?_) fr cs).keep.then ?_
  ·rw [hv'.cell,← hv];exact A.cell rfl
  ·have:=hv'.heap C.o.bo;rw [show (w.at d).heap=w.heap from rfl,hrow,Br.I9 A.mem] at this;simp [World.frozen?,this,Br.fz]
  ·rw [hv'.heap,show (w.at d).heap=w.heap from rfl,hbH,hsb];rfl
  ·obtain ⟨⟨x,rfl⟩,c',q1,q2,q3,q4,q5,q6⟩:=he;exact ⟨v,c',hv',q1,q2,q3,q4,q5,q6⟩
  ·rintro g w' ⟨⟨x,v',rfl,hl',v,c',hv',q1,q2,q3,q4,q5,q6⟩,hkp⟩;have hvs:v.heap.size=w.heap.size:=hv'.size;have hk:∀ k,k<w.heap.size->k≠b->k≠C.o.bo->w'.heap[k]?=w.heap[k]?:=λk hk e1 e2=>H7 (w:=w.at d) hkp hv' hl' (q6 k (by omega) e1 e2);have hbw:w'.heap[b]?=some (.cells c' t (0,0)):=by
    have:=hl'.heap b;rw [q4,hsb] at this
    cases e:w'.heap[b]? with
    | none=>rw [e] at this;cases this
    | some o =>
     rw [e,Option.map_some] at this;have hs:Br.Obj.sight o:=Br.a6h (Option.some.inj this).symm trivial;rw [Br.a1s hs] at this;exact this.symm
   have hrw:w'.heap[C.o.bo]?=some (.cells (I5 C 0 0 (.slice (some ⟨b,0,none⟩) (sl.xs.length - 1:Nat) sl.cap) un go) t2 (0,0)):=by
    have e2:v.heap[C.o.bo]?=some (.cells (I5 C 0 0 sl.val un go) t2 (0,3)):=by
     rw [hv'.heap,show (w.at d).heap=w.heap from rfl,hrow,Br.I9 A.mem];rfl
    rw [Br.heap_setCell,if_pos rfl,e2] at q5;have e3:=hl'.heap C.o.bo;rw [q5,Br.I9 A.mem] at e3;obtain ⟨c2,t',h'⟩:=hl'.soft C.o.bo (by rw [Br.I9 A.mem];omega);rw [h'] at e3 ⊢;simp only [Option.map_some,Br.fz,Option.some.injEq,Obj.cells.injEq] at e3;obtain ⟨e4,e5,_⟩:=e3;rw [← e4,← e5];rfl
   obtain ⟨a0,a1,a2,a3,a4⟩:=A.env.ap _ A.mem;obtain ⟨b0,b1,b2,b3,b4⟩:=A.own.ap b (List.mem_cons_of_mem _ h2);have hs:w.heap.size<=w'.heap.size:=by rw [← hl'.size,← hvs];exact q3
   have A':=A.chg hbo (List.mem_cons_of_mem _ h2) (A.env.rep.same hs (λk hk' h=>hk k hk' (by rcases h with rfl|rfl|rfl|rfl<;>first|exact Ne.symm b0|exact Ne.symm b1|exact Ne.symm b2|exact Ne.symm b3) (by rcases h with rfl|rfl|rfl|rfl<;>first|exact Ne.symm a0|exact Ne.symm a1|exact Ne.symm a2|exact Ne.symm a3))) hl'.fit hs hk hbw hrw;refine h pv _ _ _ w' ⟨x,c',rfl,rfl,q1,q2,rfl,rfl⟩ ⟨_,A',λi hi=>⟨(hH i hi).1,?_⟩⟩ ⟨hs,λk hk' h0 _ _ _=>hk k hk' (λe=>h0 (by rw [e];exact List.mem_cons_of_mem _ h2)) (λe=>h0 (by rw [e];exact List.mem_cons_self ..))⟩ (λi hi=>.inl hi) w'.drawn;rw [w9.set_other _ _ (hH i hi).1]
   by_cases e:i=b
   ·subst e;rw [w9.set_same,w9.set_same]
   ·rw [w9.set_other _ _ e,w9.set_other _ _ e];exact (hH i hi).2
 ·rintro pv' H' free' g' ⟨x,c',rfl,rfl,q1,q2,rfl,rfl⟩;refine hn _ _ x ⟨⟨some b,sl.cap,K8 sl.xs⟩,h1.symm,by simp [Sl.val,q2],rfl,by show (K8 sl.xs).length<=min 40 sl.cap;omega,.inr ⟨b,c',t,rfl,h2,w9.set_same _ _ _,q1⟩⟩ (λi hi he=>?_);rw [w9.set_other _ _ (λe=>he (by rw [e,h1]))]
end
end Go.Proofs.YtcgabodkegcpgaaDoor
namespace Go.Proofs.YtcgabodkegcpgaaDoor
theorem a1w (xs:List Int)(i j:Nat):(J0 xs i j).length=xs.length:=by simp [J0]
theorem a8d:∀ (f:Nat) (xs:List Int) (i n:Nat),(K7 f xs i n).length=xs.length:=by
 intro f
 induction f with
 | zero=>intro xs i n;rfl
 | succ f ih =>
  intro xs i n;unfold K7;dsimp only;split
  ·rfl
  ·split<;>split<;>first|rfl|rw [ih,a1w]
theorem a2s (xs:List Int):(K8 xs).length=xs.length - 1:=by
 unfold K8;rw [List.length_take,a8d,a1w];omega
end Go.Proofs.YtcgabodkegcpgaaDoor
namespace Go.Proofs.YtcgabodkegcpgaaDoor
open Go.RowKit
attribute [local go_sem ↓] Go.wp_at_zero Go.wp_at_succ
theorem a6C (w:World)(a:Option Addr)(n cap:Nat):Calls Tryd.prog 114 #[.slice a n cap] w λe w'=>e=.returned (.int .i64 n)/\w'=w:=by
 go_enter Tryd.func114,Tryd.ntmps114
 go_wp2_with fail
 go_ret
 exact ⟨rfl,rfl⟩
theorem a8e (w:World)(b n cap i j:Nat)(x y:Int)(hi:i<n)(hj:j<n)(hx:w.cell? ⟨b,i,none⟩=some (.int .i64 x))(hy:w.cell? ⟨b,j,none⟩=some (.int .i64 y)):Calls Tryd.prog 115 #[.slice (some ⟨b,0,none⟩) n cap,.int .i64 i,.int .i64 j] w λe w'=>e=.returned (.bool (decide (x<y)))/\∃ q,w'=w.drewN q:=by
 have i1:(0:Int)<=(i:Int):=by omega
 have i2:(i:Int)<(n:Int):=by omega
 have j1:(0:Int)<=(j:Int):=by omega
 have j2:(j:Int)<(n:Int):=by omega
 go_enter Tryd.func115,Tryd.ntmps115
 go_wp2_with fail
 go_quiet (fail)
 go_wp2_with fail
 go_ret
 exact ⟨rfl,_,rfl⟩
theorem b4l (w:World)(b n cap i j:Nat)(x y:Int)(hi:i<n)(hj:j<n)(hx:w.cell? ⟨b,i,none⟩=some (.int .i64 x))(hy:w.cell? ⟨b,j,none⟩=some (.int .i64 y))(hf:∀ k,w.frozen? ⟨b,k,none⟩=false):Calls Tryd.prog 116 #[.slice (some ⟨b,0,none⟩) n cap,.int .i64 i,.int .i64 j] w λe w'=>(∃ v,e=.returned v)/\∃ q,w'=((w.setCell ⟨b,i,none⟩ (.int .i64 y)).setCell ⟨b,j,none⟩ (.int .i64 x)).drewN q:=by
 have i1:(0:Int)<=(i:Int):=by omega
 have i2:(i:Int)<(n:Int):=by omega
 have j1:(0:Int)<=(j:Int):=by omega
 have j2:(j:Int)<(n:Int):=by omega
 have f1:=hf i;have f2:=hf j
 go_enter Tryd.func116,Tryd.ntmps116
 by_cases hij:i=j
 ·subst hij;obtain rfl:x=y:=by rw [hx] at hy;cases hy;rfl
  go_region_with (fail)
  all_goals (go_end0;exact ⟨⟨_,rfl⟩,1,rfl⟩)
 ·have hji:¬ j=i:=λe=>hij e.symm
  go_region_with (fail)
  all_goals (go_end0;exact ⟨⟨_,rfl⟩,1,rfl⟩)
theorem b6T (w:World)(p:Addr)(hp:p.spot=none)(b n cap:Nat)(x:Int)(hn:n+1<=cap)(hpb:p.block≠b)(hc:w.cell? p=some (.slice (some ⟨b,0,none⟩) (n+1) cap))(hz:w.frozen? p=false)(hx:w.cell? ⟨b,n,none⟩=some (.int .i64 x))(hs:n<1000):Calls Tryd.prog 117 #[.pointer (some p)] w λe w'=>(∃ v,e=.returned v)/\w'=w.setCell p (.slice (some ⟨b,0,none⟩) n cap):=by
 obtain ⟨pb,po,ps⟩:=p;obtain rfl:ps=none:=hp;have i1:(0:Int)<=(n:Int):=by omega
 have i2:(n:Int)<((n+1:Nat):Int):=by omega
 have i3:(n:Int)<=(cap:Int):=by omega
 have i4:n<=cap:=by omega
 go_enter Tryd.func117,Tryd.ntmps117
 go_wp2_with fail
 go_ret
 exact ⟨⟨_,rfl⟩,rfl⟩
theorem c1S (w:World)(ad:Addr):(method 263 129 (.pointer (some ad)) "Pop").run Tryd.prog w=.ok (117,.pointer (some ad)) w:=by kernel_rfl
theorem c0L (w:World)(ad:Addr):(method 263 129 (.pointer (some ad)) "Push").run Tryd.prog w=.ok (118,.pointer (some ad)) w:=by kernel_rfl
theorem c0M (w:World)(ad:Addr):(method 263 129 (.pointer (some ad)) "Len").run Tryd.prog w=(loadVar 109 ad >>= λv=>pure (114,v)).run Tryd.prog w:=by kernel_rfl
theorem b6U (w:World)(p po:Nat)(a:Option Addr)(n cap:Nat)(hc:w.cell? ⟨p,po,none⟩=some (.slice a n cap)):(method 263 129 (.pointer (some ⟨p,po,none⟩)) "Len").run Tryd.prog w=.ok (114,.slice a n cap) w:=by
 rw [c0M];have hu:Tryd.prog.underlying 109=some (.slice 3):=by kernel_rfl
 simp [go_sem,hc,hu]
theorem b9n (w:World)(ad:Addr):(method 263 129 (.pointer (some ad)) "Less").run Tryd.prog w=(loadVar 109 ad >>= λv=>pure (115,v)).run Tryd.prog w:=by kernel_rfl
theorem a5b (w:World)(p po:Nat)(a:Option Addr)(n cap:Nat)(hc:w.cell? ⟨p,po,none⟩=some (.slice a n cap)):(method 263 129 (.pointer (some ⟨p,po,none⟩)) "Less").run Tryd.prog w=.ok (115,.slice a n cap) w:=by
 rw [b9n];have hu:Tryd.prog.underlying 109=some (.slice 3):=by kernel_rfl
 simp [go_sem,hc,hu]
theorem b9o (w:World)(ad:Addr):(method 263 129 (.pointer (some ad)) "Swap").run Tryd.prog w=(loadVar 109 ad >>= λv=>pure (116,v)).run Tryd.prog w:=by kernel_rfl
theorem a3w (w:World)(p po:Nat)(a:Option Addr)(n cap:Nat)(hc:w.cell? ⟨p,po,none⟩=some (.slice a n cap)):(method 263 129 (.pointer (some ⟨p,po,none⟩)) "Swap").run Tryd.prog w=.ok (116,.slice a n cap) w:=by
 rw [b9o];have hu:Tryd.prog.underlying 109=some (.slice 3):=by kernel_rfl
 simp [go_sem,hc,hu]
attribute [local go_sem ↓] Go.wp_at_zero Go.wp_at_succ
structure Sh (w w':World) (b:Nat) (t:TypeId) (xs:List Int):Prop where
 size:w'.heap.size=w.heap.size
 oth:∀ k,k≠b->w'.heap[k]?=w.heap[k]?
 row:∃ c,w'.heap[b]?=some (.cells c t (0,0))/\b0p c xs
section
variable {w w':World} {b:Nat} {t:TypeId} {xs:List Int}
theorem Sh.cell (h:Sh w w' b t xs){i:Nat}(hi:i<xs.length):w'.cell? ⟨b,i,none⟩=some (.int .i64 (xs.getD i 0)):=by
 obtain ⟨c,h1,h2⟩:=h.row;have:=h2 i (xs.getD i 0) (by rw [List.getD_eq_getElem?_getD,List.getElem?_eq_getElem hi];rfl);simp only [World.cell?,h1];simpa using this
theorem Sh.frozen (h:Sh w w' b t xs)(i:Nat):w'.frozen? ⟨b,i,none⟩=false:=by
 obtain ⟨c,h1,h2⟩:=h.row;simp [World.frozen?,h1]
theorem Sh.hdr (h:Sh w w' b t xs){p po:Nat}(hp:p≠b):w'.cell? ⟨p,po,none⟩=w.cell? ⟨p,po,none⟩:=by
 simp only [World.cell?,h.oth p hp]
theorem Sh.drewN (h:Sh w w' b t xs)(q:Nat):Sh w (w'.drewN q) b t xs:=⟨h.size,h.oth,h.row⟩
theorem Sh.swap (h:Sh w w' b t xs){i j:Nat}(hi:i<xs.length)(hj:j<xs.length):Sh w ((w'.setCell ⟨b,i,none⟩ (.int .i64 (xs.getD j 0))).setCell ⟨b,j,none⟩ (.int .i64 (xs.getD i 0))) b t (J0 xs i j):=by
 obtain ⟨c,h1,h2⟩:=h.row;refine ⟨by simp [World.setCell];exact h.size,λk hk=>?_,(c.setIfInBounds i (.int .i64 (xs.getD j 0))).setIfInBounds j (.int .i64 (xs.getD i 0)),?_,λk x hx=>?_⟩
 ·rw [Br.heap_setCell,if_neg (λe=>hk e.symm),Br.heap_setCell,if_neg (λe=>hk e.symm)];exact h.oth k hk
 ·rw [Br.heap_setCell,if_pos rfl,Br.heap_setCell,if_pos rfl,h1];rfl
 ·have hci:i<c.size:=(Array.getElem?_eq_some_iff.1 (h2 i (xs.getD i 0) (by rw [List.getD_eq_getElem?_getD,List.getElem?_eq_getElem hi];rfl))).1;have hcj:j<c.size:=(Array.getElem?_eq_some_iff.1 (h2 j (xs.getD j 0) (by rw [List.getD_eq_getElem?_getD,List.getElem?_eq_getElem hj];rfl))).1;unfold J0 at hx;rw [List.getElem?_set] at hx;rw [Array.getElem?_setIfInBounds];split at hx
  ·rename_i e;subst e;rw [if_pos rfl,if_pos (by simpa using hcj)];simp only [List.length_set] at hx;rw [if_pos hj] at hx;rw [Option.some.inj hx]
  ·rename_i e;rw [if_neg e,Array.getElem?_setIfInBounds];rw [List.getElem?_set] at hx;split at hx
   ·rename_i e';subst e';rw [if_pos rfl,if_pos hci];rw [Option.some.inj hx]
   ·rename_i e';rw [if_neg e'];exact h2 k x hx
end
structure Dn (w w':World) (p po b cap:Nat) (t:TypeId) (ys:List Int) (m:Nat):Prop where
 sh:Sh w w' b t ys
 len:ys.length=m
 hdr:w'.cell? ⟨p,po,none⟩=some (.slice (some ⟨b,0,none⟩) m cap)
theorem Z9 {w w':World}{p po b cap:Nat}{t:TypeId}{ys:List Int}{m:Nat}(D:Dn w w' p po b cap t ys m){I J:Int}(i j:Nat)(hI:I=i)(hJ:J=j)(hi:i<m)(hj:j<m){B:Bool}(hB:decide (ys.getD i 0<ys.getD j 0)=B):Calls Tryd.prog 115 #[.slice (some ⟨b,0,none⟩) m cap,.int .i64 I,.int .i64 J] w' λe w2=>e=.returned (.bool B)/\Dn w w2 p po b cap t ys m:=by
 subst hI hJ hB;have hl:=D.len;refine (a8e w' b m cap i j _ _ hi hj (D.sh.cell (by omega)) (D.sh.cell (by omega))).mono ?_;rintro e w2 ⟨rfl,q,rfl⟩;exact ⟨rfl,D.sh.drewN q,D.len,D.hdr⟩
theorem a5H {w w':World}{p po b cap:Nat}{t:TypeId}{ys:List Int}{m:Nat}(hpb:p≠b)(D:Dn w w' p po b cap t ys m){I J:Int}(i j:Nat)(hI:I=i)(hJ:J=j)(hi:i<m)(hj:j<m):Calls Tryd.prog 116 #[.slice (some ⟨b,0,none⟩) m cap,.int .i64 I,.int .i64 J] w' λe w2=>(∃ v,e=.returned v)/\Dn w w2 p po b cap t (J0 ys i j) m:=by
 subst hI hJ;have hl:=D.len;refine (b4l w' b m cap i j _ _ hi hj (D.sh.cell (by omega)) (D.sh.cell (by omega)) D.sh.frozen).mono ?_;rintro e w2 ⟨hv,q,rfl⟩;have h2:=(D.sh.swap (i:=i) (j:=j) (by omega) (by omega)).drewN q;refine ⟨hv,h2,by rw [a1w];exact D.len,?_⟩;rw [h2.hdr hpb,← D.sh.hdr hpb];exact D.hdr
theorem b6V (w:World)(p po b cap n:Nat)(t:TypeId)(xs:List Int)(hpb:p≠b)(hl:xs.length<=40)(hc:w.cell? ⟨p,po,none⟩=some (.slice (some ⟨b,0,none⟩) xs.length cap))(hn:n<=xs.length)(hS:Sh w w b t xs) :
  Calls Tryd.prog 97 #[.iface 129 (.pointer (some ⟨p,po,none⟩)),.int .i64 0,.int .i64 n] w λe w'=>(∃ v,e=.returned v)/\Sh w w' b t (K7 xs.length xs 0 n):=by
 go_enter Tryd.func97,Tryd.ntmps97
 go_wp2_with fail
 go_loopw [7] (λs w'=>∃ (i f:Nat) (ys:List Int),s=.int .i64 i/\i<=40/\Sh w w' b t ys/\ys.length=xs.length/\K7 f ys i n=K7 xs.length xs 0 n/\xs.length<=i+f) (λs _=>41 - (intOf s).toNat)
 case atStart=>exact ⟨0,xs.length,xs,rfl,by omega,hS,rfl,rfl,by omega⟩
 case round =>
  obtain ⟨i,f,ys,rfl,hi,hs,hy,hd,hf⟩:=hrel;have w1:IntKind.i64.wrap (2*(i:Int))=2*(i:Int):=J8 (by omega) (by omega);have w2:IntKind.i64.wrap (2*(i:Int)+1)=2*(i:Int)+1:=J8 (by omega) (by omega);have w3:IntKind.i64.wrap (2*(i:Int)+1+1)=2*(i:Int)+2:=J8 (by omega) (by omega)
  by_cases h1:n<=2*i+1
  ·have g1:(n:Int)<=2*(i:Int)+1:=by omega
   have HD:Hid (Sh w wr b t (K7 xs.length xs 0 n)):=by
    rw [← hd]
    cases f with
    | zero=>exact hs
    | succ f=>unfold K7;rw [if_pos h1];exact hs
   clear hd hf hy hs hn hS hc
   go_wp2_with fail
   go_ret
   exact ⟨⟨_,rfl⟩,HD.out⟩
  ·obtain ⟨f,rfl⟩:∃ g,f=g+1:=⟨f - 1,by omega⟩;have HN:Hid (Dn w wr p po b cap t ys xs.length):=⟨hs,hy,by rw [hs.hdr hpb];exact hc⟩;obtain ⟨Z,hZ⟩:∃ Z,Z=K7 xs.length xs 0 n:=⟨_,rfl⟩;rw [← hZ] at hd;unfold K7 at hd;rw [if_neg h1] at hd;dsimp only at hd;have g1:¬ ((n:Int)<=2*(i:Int)+1):=by omega
   have g0:¬ (2*(i:Int)+1<0):=by omega
   have l0:=a5b wr p po _ _ _ HN.out.hdr;have HB:Hid (n<=xs.length/\xs.length<=40/\i<=40/\¬ n<=2*i+1/\xs.length<=i+(f+1)):=⟨hn,hl,hi,h1,hf⟩
   by_cases h2:2*i+2<n
   ·have g2:2*(i:Int)+2<(n:Int):=by omega
    by_cases h3:ys.getD (2*i+2) 0<ys.getD (2*i+1) 0
    ·have H3:Hid (decide (ys.getD (2*i+2) 0<ys.getD (2*i+1) 0)=true):=by unfold Hid;simpa using h3
     rw [if_pos (⟨h2,h3⟩:2*i+2<n/\ys.getD (2*i+2) 0<ys.getD (2*i+1) 0)] at hd;have hj':2*i+2<ys.length:=by omega
     by_cases h4:ys.getD (2*i+2) 0<ys.getD i 0
     ·have H4:Hid (decide (ys.getD (2*i+2) 0<ys.getD i 0)=true):=by unfold Hid;simpa using h4
      rw [if_pos h4] at hd;have HD:Hid (K7 f (J0 ys i (2*i+2)) (2*i+2) n=K7 xs.length xs 0 n):=hd.trans hZ;have tok1:Hid True:=trivial;clear hZ hd hf hy hs hn hS hc h1 h2 hi hl h4 hj' h3
      go_wp2_with (first|(clear tok1;go_at_call 115;refine (Z9 HN.out (2*i+2) (2*i+1) (by omega) (by omega) (by have:=HB.out;omega) (by have:=HB.out;omega) (B:=true) H3.out).mono ?_;rintro e w1 ⟨rfl,D1⟩;have l1:=a5b w1 p po _ _ _ D1.hdr;have HN1:Hid (Dn w w1 p po b cap t ys xs.length):=D1;clear D1 l0;have tok2:Hid True:=trivial)|(clear tok2;go_at_call 115;refine (Z9 HN1.out (2*i+2) i (by omega) rfl (by have:=HB.out;omega) (by have:=HB.out;omega) (B:=true) H4.out).mono ?_;rintro e w2 ⟨rfl,D2⟩;have s2:=a3w w2 p po _ _ _ D2.hdr;have HN2:Hid (Dn w w2 p po b cap t ys xs.length):=D2;clear D2)|(go_at_call 116;refine (a5H hpb HN2.out i (2*i+2) rfl (by omega) (by have:=HB.out;omega) (by have:=HB.out;omega)).mono ?_;rintro e w3 ⟨⟨v3,rfl⟩,D3⟩;have HN3:Hid (Dn w w3 p po b cap t (J0 ys i (2*i+2)) xs.length):=D3;clear D3))
      exact ⟨⟨2*i+2,f,J0 ys i (2*i+2),by simp,by have:=HB.out;omega,HN3.out.sh,HN3.out.len,HD.out,by have:=HB.out;omega⟩,by have:=HB.out;simp [intOf];omega⟩
     ·have H4:Hid (decide (ys.getD (2*i+2) 0<ys.getD i 0)=false):=by unfold Hid;simpa using h4
      rw [if_neg h4] at hd;have HD:Hid (ys=K7 xs.length xs 0 n):=hd.trans hZ;have tok1:Hid True:=trivial;clear hZ hd hf hy hs hn hS hc h1 h2 hi hl h4 hj' h3
      go_wp2_with (first|(clear tok1;go_at_call 115;refine (Z9 HN.out (2*i+2) (2*i+1) (by omega) (by omega) (by have:=HB.out;omega) (by have:=HB.out;omega) (B:=true) H3.out).mono ?_;rintro e w1 ⟨rfl,D1⟩;have l1:=a5b w1 p po _ _ _ D1.hdr;have HN1:Hid (Dn w w1 p po b cap t ys xs.length):=D1;clear D1 l0;have tok2:Hid True:=trivial)|(clear tok2;go_at_call 115;refine (Z9 HN1.out (2*i+2) i (by omega) rfl (by have:=HB.out;omega) (by have:=HB.out;omega) (B:=false) H4.out).mono ?_;rintro e w2 ⟨rfl,D2⟩;have s2:=a3w w2 p po _ _ _ D2.hdr;have HN2:Hid (Dn w w2 p po b cap t ys xs.length):=D2;clear D2))
      go_ret
      exact ⟨⟨_,rfl⟩,by rw [← HD.out];exact HN2.out.sh⟩
    ·have H3:Hid (decide (ys.getD (2*i+2) 0<ys.getD (2*i+1) 0)=false):=by unfold Hid;simpa using h3
     rw [if_neg (λh=>h3 h.2:¬ (2*i+2<n/\ys.getD (2*i+2) 0<ys.getD (2*i+1) 0))] at hd;have hj':2*i+1<ys.length:=by omega
     by_cases h4:ys.getD (2*i+1) 0<ys.getD i 0
     ·have H4:Hid (decide (ys.getD (2*i+1) 0<ys.getD i 0)=true):=by unfold Hid;simpa using h4
      rw [if_pos h4] at hd;have HD:Hid (K7 f (J0 ys i (2*i+1)) (2*i+1) n=K7 xs.length xs 0 n):=hd.trans hZ;have tok1:Hid True:=trivial;clear hZ hd hf hy hs hn hS hc h1 h2 hi hl h4 hj' h3
      go_wp2_with (first|(clear tok1;go_at_call 115;refine (Z9 HN.out (2*i+2) (2*i+1) (by omega) (by omega) (by have:=HB.out;omega) (by have:=HB.out;omega) (B:=false) H3.out).mono ?_;rintro e w1 ⟨rfl,D1⟩;have l1:=a5b w1 p po _ _ _ D1.hdr;have HN1:Hid (Dn w w1 p po b cap t ys xs.length):=D1;clear D1 l0;have tok2:Hid True:=trivial)|(clear tok2;go_at_call 115;refine (Z9 HN1.out (2*i+1) i (by omega) rfl (by have:=HB.out;omega) (by have:=HB.out;omega) (B:=true) H4.out).mono ?_;rintro e w2 ⟨rfl,D2⟩;have s2:=a3w w2 p po _ _ _ D2.hdr;have HN2:Hid (Dn w w2 p po b cap t ys xs.length):=D2;clear D2)|(go_at_call 116;refine (a5H hpb HN2.out i (2*i+1) rfl (by omega) (by have:=HB.out;omega) (by have:=HB.out;omega)).mono ?_;rintro e w3 ⟨⟨v3,rfl⟩,D3⟩;have HN3:Hid (Dn w w3 p po b cap t (J0 ys i (2*i+1)) xs.length):=D3;clear D3))
      exact ⟨⟨2*i+1,f,J0 ys i (2*i+1),by simp,by have:=HB.out;omega,HN3.out.sh,HN3.out.len,HD.out,by have:=HB.out;omega⟩,by have:=HB.out;simp [intOf];omega⟩
     ·have H4:Hid (decide (ys.getD (2*i+1) 0<ys.getD i 0)=false):=by unfold Hid;simpa using h4
      rw [if_neg h4] at hd;have HD:Hid (ys=K7 xs.length xs 0 n):=hd.trans hZ;have tok1:Hid True:=trivial;clear hZ hd hf hy hs hn hS hc h1 h2 hi hl h4 hj' h3
      go_wp2_with (first|(clear tok1;go_at_call 115;refine (Z9 HN.out (2*i+2) (2*i+1) (by omega) (by omega) (by have:=HB.out;omega) (by have:=HB.out;omega) (B:=false) H3.out).mono ?_;rintro e w1 ⟨rfl,D1⟩;have l1:=a5b w1 p po _ _ _ D1.hdr;have HN1:Hid (Dn w w1 p po b cap t ys xs.length):=D1;clear D1 l0;have tok2:Hid True:=trivial)|(clear tok2;go_at_call 115;refine (Z9 HN1.out (2*i+1) i (by omega) rfl (by have:=HB.out;omega) (by have:=HB.out;omega) (B:=false) H4.out).mono ?_;rintro e w2 ⟨rfl,D2⟩;have s2:=a3w w2 p po _ _ _ D2.hdr;have HN2:Hid (Dn w w2 p po b cap t ys xs.length):=D2;clear D2))
      go_ret
      exact ⟨⟨_,rfl⟩,by rw [← HD.out];exact HN2.out.sh⟩
   ·have g2:¬ (2*(i:Int)+2<(n:Int)):=by omega
    rw [if_neg (λh=>h2 h.1:¬ (2*i+2<n/\ys.getD (2*i+2) 0<ys.getD (2*i+1) 0))] at hd;have hj':2*i+1<ys.length:=by omega
    by_cases h4:ys.getD (2*i+1) 0<ys.getD i 0
    ·have H4:Hid (decide (ys.getD (2*i+1) 0<ys.getD i 0)=true):=by unfold Hid;simpa using h4
     rw [if_pos h4] at hd;have HD:Hid (K7 f (J0 ys i (2*i+1)) (2*i+1) n=K7 xs.length xs 0 n):=hd.trans hZ;have tok1:Hid True:=trivial;clear hZ hd hf hy hs hn hS hc h1 h2 hi hl h4 hj'
     go_wp2_with (first|(clear tok1;go_at_call 115;refine (Z9 HN.out (2*i+1) i (by omega) rfl (by have:=HB.out;omega) (by have:=HB.out;omega) (B:=true) H4.out).mono ?_;rintro e w2 ⟨rfl,D2⟩;have s2:=a3w w2 p po _ _ _ D2.hdr;have HN2:Hid (Dn w w2 p po b cap t ys xs.length):=D2;clear D2)|(go_at_call 116;refine (a5H hpb HN2.out i (2*i+1) rfl (by omega) (by have:=HB.out;omega) (by have:=HB.out;omega)).mono ?_;rintro e w3 ⟨⟨v3,rfl⟩,D3⟩;have HN3:Hid (Dn w w3 p po b cap t (J0 ys i (2*i+1)) xs.length):=D3;clear D3))
     exact ⟨⟨2*i+1,f,J0 ys i (2*i+1),by simp,by have:=HB.out;omega,HN3.out.sh,HN3.out.len,HD.out,by have:=HB.out;omega⟩,by have:=HB.out;simp [intOf];omega⟩
    ·have H4:Hid (decide (ys.getD (2*i+1) 0<ys.getD i 0)=false):=by unfold Hid;simpa using h4
     rw [if_neg h4] at hd;have HD:Hid (ys=K7 xs.length xs 0 n):=hd.trans hZ;have tok1:Hid True:=trivial;clear hZ hd hf hy hs hn hS hc h1 h2 hi hl h4 hj'
     go_wp2_with (first|(clear tok1;go_at_call 115;refine (Z9 HN.out (2*i+1) i (by omega) rfl (by have:=HB.out;omega) (by have:=HB.out;omega) (B:=false) H4.out).mono ?_;rintro e w2 ⟨rfl,D2⟩;have s2:=a3w w2 p po _ _ _ D2.hdr;have HN2:Hid (Dn w w2 p po b cap t ys xs.length):=D2;clear D2))
     go_ret
     exact ⟨⟨_,rfl⟩,by rw [← HD.out];exact HN2.out.sh⟩
attribute [local go_sem ↓] Go.wp_at_zero Go.wp_at_succ
theorem Sh.trans {w w1 w2:World}{b:Nat}{t:TypeId}{xs ys:List Int}(h:Sh w w1 b t xs)(k:Sh w1 w2 b t ys):Sh w w2 b t ys :=
 ⟨k.size.trans h.size,λi hi=>(k.oth i hi).trans (h.oth i hi),k.row⟩
theorem Sh.froz {w w':World}{b:Nat}{t:TypeId}{xs:List Int}(h:Sh w w' b t xs){p po:Nat}(hp:p≠b):w'.frozen? ⟨p,po,none⟩=w.frozen? ⟨p,po,none⟩:=by
 simp only [World.frozen?,h.oth p hp]
theorem Sh.base {w w':World}{b:Nat}{t:TypeId}{xs:List Int}(h:Sh w w' b t xs):Sh w' w' b t xs:=⟨rfl,λ_ _=>rfl,h.row⟩
theorem b9p {w w':World}{p po b cap:Nat}{t:TypeId}{ys:List Int}{m:Nat}(hpb:p≠b)(D:Dn w w' p po b cap t ys m)(hm:m<=40){J:Int}(n:Nat)(hJ:J=n)(hn:n<=m) :
  Calls Tryd.prog 97 #[.iface 129 (.pointer (some ⟨p,po,none⟩)),.int .i64 0,.int .i64 J] w' λe w2=>(∃ v,e=.returned v)/\Dn w w2 p po b cap t (K7 m ys 0 n) m:=by
 subst hJ;have hl:=D.len;subst hl;refine (b6V w' p po b cap n t ys hpb hm D.hdr hn D.sh.base).mono ?_;rintro e w2 ⟨hv,h⟩;have h2:=D.sh.trans h;exact ⟨hv,h2,a8d _ _ _ _,by rw [h2.hdr hpb,← D.sh.hdr hpb];exact D.hdr⟩
theorem a4j:Z8:=by
 intro v p b cap c t xs hp hpb hx hl hcap hc hz hb hH;obtain ⟨pb,po,ps⟩:=p;obtain rfl:ps=none:=hp;have hpb':pb≠b:=hpb;obtain ⟨m,hm⟩:∃ m,xs.length=m+1:=⟨xs.length - 1,by have:xs.length≠0:=λh=>hx (List.length_eq_zero_iff.1 h);omega⟩;have D0:Hid (Dn v v pb po b cap t xs (m+1)):=⟨⟨rfl,λ_ _=>rfl,c,hb,hH⟩,hm,by rw [hc,hm]⟩;have HB:Hid (m+1<=40/\m+1<=cap/\v.frozen? ⟨pb,po,none⟩=false):=⟨by omega,by omega,hz⟩;have HX:Hid (xs.length=m+1):=hm;have l0:=b6U v pb po _ _ _ D0.out.hdr;have s0:=a3w v pb po _ _ _ D0.out.hdr;have hmm:m<1000:=by omega
 have mp:=c1S;clear hb hH hc hz hl hcap hx hpb hm
 go_enter Tryd.func94,Tryd.ntmps94
 go_wp2_with (first|(go_at_call 114;refine (a6C _ _ _ _).mono ?_;rintro e w0 ⟨rfl,rfl⟩)|(go_at_call 116;refine (a5H hpb' D0.out 0 m rfl (by omega) (by omega) (by omega)).mono ?_;rintro e w1 ⟨⟨v1,rfl⟩,D1⟩;have H1:Hid (Dn _ w1 pb po b cap t (J0 xs 0 m) (m+1)):=D1;clear D1)|(go_at_call 97;refine (b9p hpb' H1.out HB.out.1 m (by omega) (by omega)).mono ?_;rintro e w2 ⟨⟨v2,rfl⟩,D2⟩;have H2:Hid (Dn _ w2 pb po b cap t (K7 (m+1) (J0 xs 0 m) 0 m) (m+1)):=D2;clear D2)|(go_at_call 117;refine (b6T _ ⟨pb,po,none⟩ rfl b m cap _ HB.out.2.1 hpb' H2.out.hdr (by rw [H2.out.sh.froz hpb'];exact HB.out.2.2) (H2.out.sh.cell (by have:=H2.out.len;omega)) (by have:=HB.out.1;omega)).mono ?_;rintro e w3 ⟨⟨v3,rfl⟩,rfl⟩))
 go_ret
 have D2:=H2.out;have hX:=HX.out;obtain ⟨c',h1,h2⟩:=D2.sh.row;have hpl:K8 xs=(K7 (m+1) (J0 xs 0 m) 0 m).take m:=by unfold K8;rw [hX];rfl
 refine ⟨⟨_,rfl⟩,c',λi x hi=>h2 i x ?_,a2s xs,?_,?_,?_,λk _ hk1 hk2=>?_⟩
 ·rw [hpl,List.getElem?_take] at hi;split at hi
  ·exact hi
  ·cases hi
 ·simp [World.setCell];exact Nat.le_of_eq D2.sh.size.symm
 ·rw [Br.heap_setCell,if_neg hpb'];exact h1
 ·rw [Br.heap_setCell,if_pos rfl,Br.heap_setCell,if_pos rfl,D2.sh.oth pb hpb',hX];rfl
 ·rw [Br.heap_setCell,if_neg (λe=>hk2 e.symm)];exact D2.sh.oth k hk1
attribute [local go_sem ↓] Go.wp_at_zero Go.wp_at_succ
theorem c0N {w w':World}{p po b cap:Nat}{t:TypeId}{ys:List Int}{m:Nat}(D:Dn w w' p po b cap t ys m){I J:Int}(i j:Nat)(hI:I=i)(hJ:J=j)(hi:i<m)(hj:j<m){B:Bool}(hB:decide (ys.getD i 0<ys.getD j 0)=B):Calls Tryd.prog 115 #[.slice (some ⟨b,0,none⟩) m cap,.int .i64 I,.int .i64 J] w' λe w2=>e=.returned (.bool B)/\∃ q,w2=w'.drewN q:=by
 subst hI hJ hB;have hl:=D.len;exact a8e w' b m cap i j _ _ hi hj (D.sh.cell (by omega)) (D.sh.cell (by omega))
theorem b9q {w w':World}{p po b cap:Nat}{t:TypeId}{ys:List Int}{m:Nat}(D:Dn w w' p po b cap t ys m) :
  Calls Tryd.prog 96 #[.iface 129 (.pointer (some ⟨p,po,none⟩)),.int .i64 0] w' λe w2=>(∃ v,e=.returned v)/\∃ q,w2=w'.drewN q:=by
 have HD:Hid (Dn w w' p po b cap t ys m):=D;clear D
 go_enter Tryd.func96,Tryd.ntmps96
 go_wp2_with fail
 go_loopw [1] (λs w2=>s=.int .i64 0/\w2=w') (λs _=>0)
 case atStart=>exact ⟨rfl,rfl⟩
 case round =>
  obtain ⟨rfl,rfl⟩:=hrel
  go_wp2_with fail
  go_end0
  exact ⟨⟨_,rfl⟩,0,rfl⟩
theorem b6W {w w':World}{p po b cap:Nat}{t:TypeId}{ys:List Int}{m:Nat}(D:Dn w w' p po b cap t ys m)(j:Nat)(hj:j+1<m)(hm:m<=40)(hle:ys.getD (j / 2) 0<=ys.getD (j+1) 0) :
  Calls Tryd.prog 96 #[.iface 129 (.pointer (some ⟨p,po,none⟩)),.int .i64 ((j:Int)+1)] w' λe w2=>(∃ v,e=.returned v)/\∃ q,w2=w'.drewN q:=by
 have HD:Hid (Dn w w' p po b cap t ys m):=D;have l0:=a5b w' p po _ _ _ D.hdr;have HB:Hid (decide (ys.getD (j+1) 0<ys.getD (j / 2) 0)=false):=by unfold Hid;simpa using hle
 have hjj:j<1000:=by omega
 have q1:Int.tdiv (j:Int) 2=((j / 2:Nat):Int):=by simp [Int.tdiv]
 have q2:¬ ((j:Int) / 2=(j:Int)+1):=by omega
 have HJ:Hid (j+1<m/\m<=40):=⟨hj,hm⟩;clear D hle hj hm
 go_enter Tryd.func96,Tryd.ntmps96
 go_wp2_with fail
 go_loopw [1] (λs w2=>s=.int .i64 ((j:Int)+1)/\w2=w') (λs _=>0)
 case atStart=>exact ⟨rfl,rfl⟩
 case round =>
  obtain ⟨rfl,rfl⟩:=hrel
  go_wp2_with (go_at_call 115;refine (c0N HD.out (j+1) (j / 2) (by omega) (by omega) (by have:=HJ.out;omega) (by have:=HJ.out;omega) (B:=false) HB.out).mono ?_;rintro e w1 ⟨rfl,q,rfl⟩)
  go_end0
  exact ⟨⟨_,rfl⟩,q,rfl⟩
end Go.Proofs.YtcgabodkegcpgaaDoor
