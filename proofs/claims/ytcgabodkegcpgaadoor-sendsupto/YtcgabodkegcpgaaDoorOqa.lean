/- heap.down and heap.Pop, alone. -/
import Derived.Test.YtcgabodkegcpgaaDoorOpm
import Derived.Test.YtcgabodkegcpgaaDoorOpr
import Derived.Deep.AppendLies
import Derived.Deep.RegionLaw
set_option linter.unusedVariables false
set_option linter.unusedSimpArgs false
set_option maxHeartbeats 20000000
set_option maxRecDepth 100000
namespace Go.Proofs.YtcgabodkegcpgaaDoor
open Go.RowKit
attribute [local go_sem ↓] Go.wp_at_zero Go.wp_at_succ
structure Sh (w w':World) (b:Nat) (t:TypeId) (xs:List Int):Prop where
 size:w'.heap.size=w.heap.size
 oth:∀ k,k≠b→w'.heap[k]?=w.heap[k]?
 row:∃ c,w'.heap[b]?=some (.cells c t (0,0))∧Holds c xs
section
variable {w w':World} {b:Nat} {t:TypeId} {xs:List Int}
theorem Sh.cell (h:Sh w w' b t xs){i:Nat}(hi:i<xs.length):w'.cell? ⟨b,i,none⟩=some (.int .i64 (xs.getD i 0)):=by
 obtain ⟨c,h1,h2⟩:=h.row
 have:=h2 i (xs.getD i 0) (by rw [List.getD_eq_getElem?_getD,List.getElem?_eq_getElem hi];rfl)
 simp only [World.cell?,h1]
 simpa using this
theorem Sh.frozen (h:Sh w w' b t xs)(i:Nat):w'.frozen? ⟨b,i,none⟩=false:=by
 obtain ⟨c,h1,h2⟩:=h.row
 simp [World.frozen?,h1]
theorem Sh.hdr (h:Sh w w' b t xs){p po:Nat}(hp:p≠b):w'.cell? ⟨p,po,none⟩=w.cell? ⟨p,po,none⟩:=by
 simp only [World.cell?,h.oth p hp]
theorem Sh.drewN (h:Sh w w' b t xs)(q:Nat):Sh w (w'.drewN q) b t xs:=⟨h.size,h.oth,h.row⟩
theorem Sh.swap (h:Sh w w' b t xs){i j:Nat}(hi:i<xs.length)(hj:j<xs.length):Sh w ((w'.setCell ⟨b,i,none⟩ (.int .i64 (xs.getD j 0))).setCell ⟨b,j,none⟩ (.int .i64 (xs.getD i 0))) b t (swapL xs i j):=by
 obtain ⟨c,h1,h2⟩:=h.row
 refine ⟨by simp [World.setCell];exact h.size,fun k hk=>?_,(c.setIfInBounds i (.int .i64 (xs.getD j 0))).setIfInBounds j (.int .i64 (xs.getD i 0)),?_,fun k x hx=>?_⟩
 ·rw [Br.heap_setCell,if_neg (fun e=>hk e.symm),Br.heap_setCell,if_neg (fun e=>hk e.symm)];exact h.oth k hk
 ·rw [Br.heap_setCell,if_pos rfl,Br.heap_setCell,if_pos rfl,h1];rfl
 ·have hci:i<c.size:=(Array.getElem?_eq_some_iff.1 (h2 i (xs.getD i 0) (by rw [List.getD_eq_getElem?_getD,List.getElem?_eq_getElem hi];rfl))).1
  have hcj:j<c.size:=(Array.getElem?_eq_some_iff.1 (h2 j (xs.getD j 0) (by rw [List.getD_eq_getElem?_getD,List.getElem?_eq_getElem hj];rfl))).1
  unfold swapL at hx
  rw [List.getElem?_set] at hx
  rw [Array.getElem?_setIfInBounds]
  split at hx
  ·rename_i e
   subst e
   rw [if_pos rfl,if_pos (by simpa using hcj)]
   simp only [List.length_set] at hx
   rw [if_pos hj] at hx
   rw [Option.some.inj hx]
  ·rename_i e
   rw [if_neg e,Array.getElem?_setIfInBounds]
   rw [List.getElem?_set] at hx
   split at hx
   ·rename_i e'
    subst e'
    rw [if_pos rfl,if_pos hci]
    rw [Option.some.inj hx]
   ·rename_i e'
    rw [if_neg e']
    exact h2 k x hx
end
structure Dn (w w':World) (p po b cap:Nat) (t:TypeId) (ys:List Int) (m:Nat):Prop where
 sh:Sh w w' b t ys
 len:ys.length=m
 hdr:w'.cell? ⟨p,po,none⟩=some (.slice (some ⟨b,0,none⟩) m cap)
theorem less_at {w w':World}{p po b cap:Nat}{t:TypeId}{ys:List Int}{m:Nat}(D:Dn w w' p po b cap t ys m){I J:Int}(i j:Nat)(hI:I=i)(hJ:J=j)(hi:i<m)(hj:j<m){B:Bool}(hB:decide (ys.getD i 0<ys.getD j 0)=B):Calls Tryd.prog 115 #[.slice (some ⟨b,0,none⟩) m cap,.int .i64 I,.int .i64 J] w' fun e w2=>e=.returned (.bool B)∧Dn w w2 p po b cap t ys m:=by
 subst hI hJ hB
 have hl:=D.len
 refine (fless_any w' b m cap i j _ _ hi hj (D.sh.cell (by omega)) (D.sh.cell (by omega))).mono ?_
 rintro e w2 ⟨rfl,q,rfl⟩
 exact ⟨rfl,D.sh.drewN q,D.len,D.hdr⟩
theorem swap_at {w w':World}{p po b cap:Nat}{t:TypeId}{ys:List Int}{m:Nat}(hpb:p≠b)(D:Dn w w' p po b cap t ys m){I J:Int}(i j:Nat)(hI:I=i)(hJ:J=j)(hi:i<m)(hj:j<m):Calls Tryd.prog 116 #[.slice (some ⟨b,0,none⟩) m cap,.int .i64 I,.int .i64 J] w' fun e w2=>(∃ v,e=.returned v)∧Dn w w2 p po b cap t (swapL ys i j) m:=by
 subst hI hJ
 have hl:=D.len
 refine (fswap_any w' b m cap i j _ _ hi hj (D.sh.cell (by omega)) (D.sh.cell (by omega)) D.sh.frozen).mono ?_
 rintro e w2 ⟨hv,q,rfl⟩
 have h2:=(D.sh.swap (i:=i) (j:=j) (by omega) (by omega)).drewN q
 refine ⟨hv,h2,by rw [swapL_len];exact D.len,?_⟩
 rw [h2.hdr hpb,← D.sh.hdr hpb]
 exact D.hdr
theorem down_any (w:World)(p po b cap n:Nat)(t:TypeId)(xs:List Int)(hpb:p≠b)(hl:xs.length≤40)(hc:w.cell? ⟨p,po,none⟩=some (.slice (some ⟨b,0,none⟩) xs.length cap))(hn:n≤xs.length)(hS:Sh w w b t xs) :
  Calls Tryd.prog 97 #[.iface 129 (.pointer (some ⟨p,po,none⟩)),.int .i64 0,.int .i64 n] w fun e w'=>(∃ v,e=.returned v)∧Sh w w' b t (downL xs.length xs 0 n):=by
 go_enter Tryd.func97,Tryd.ntmps97
 go_wp2_with fail
 go_loopw [7] (fun s w'=>∃ (i f:Nat) (ys:List Int),s=.int .i64 i∧i≤40∧Sh w w' b t ys∧ys.length=xs.length∧downL f ys i n=downL xs.length xs 0 n∧xs.length≤i+f) (fun s _=>41 - (intOf s).toNat)
 case atStart=>exact ⟨0,xs.length,xs,rfl,by omega,hS,rfl,rfl,by omega⟩
 case round =>
  obtain ⟨i,f,ys,rfl,hi,hs,hy,hd,hf⟩:=hrel
  have w1:IntKind.i64.wrap (2*(i:Int))=2*(i:Int):=wrap_small (by omega) (by omega)
  have w2:IntKind.i64.wrap (2*(i:Int)+1)=2*(i:Int)+1:=wrap_small (by omega) (by omega)
  have w3:IntKind.i64.wrap (2*(i:Int)+1+1)=2*(i:Int)+2:=wrap_small (by omega) (by omega)
  by_cases h1:n≤2*i+1
  ·have g1:(n:Int)≤2*(i:Int)+1:=by omega
   have HD:Hid (Sh w wr b t (downL xs.length xs 0 n)):=by
    rw [← hd]
    cases f with
    | zero=>exact hs
    | succ f=>unfold downL;rw [if_pos h1];exact hs
   clear hd hf hy hs hn hS hc
   go_wp2_with fail
   go_ret
   exact ⟨⟨_,rfl⟩,HD.out⟩
  ·obtain ⟨f,rfl⟩:∃ g,f=g+1:=⟨f - 1,by omega⟩
   have HN:Hid (Dn w wr p po b cap t ys xs.length):=⟨hs,hy,by rw [hs.hdr hpb];exact hc⟩
   obtain ⟨Z,hZ⟩:∃ Z,Z=downL xs.length xs 0 n:=⟨_,rfl⟩
   rw [← hZ] at hd
   unfold downL at hd
   rw [if_neg h1] at hd
   dsimp only at hd
   have g1:¬ ((n:Int)≤2*(i:Int)+1):=by omega
   have g0:¬ (2*(i:Int)+1<0):=by omega
   have l0:=m_less wr p po _ _ _ HN.out.hdr
   have HB:Hid (n≤xs.length∧xs.length≤40∧i≤40∧¬ n≤2*i+1∧xs.length≤i+(f+1)):=⟨hn,hl,hi,h1,hf⟩
   by_cases h2:2*i+2<n
   ·have g2:2*(i:Int)+2<(n:Int):=by omega
    by_cases h3:ys.getD (2*i+2) 0<ys.getD (2*i+1) 0
    ·have H3:Hid (decide (ys.getD (2*i+2) 0<ys.getD (2*i+1) 0)=true):=by unfold Hid;simpa using h3
     rw [if_pos (⟨h2,h3⟩:2*i+2<n∧ys.getD (2*i+2) 0<ys.getD (2*i+1) 0)] at hd
     have hj':2*i+2<ys.length:=by omega
     by_cases h4:ys.getD (2*i+2) 0<ys.getD i 0
     ·have H4:Hid (decide (ys.getD (2*i+2) 0<ys.getD i 0)=true):=by unfold Hid;simpa using h4
      rw [if_pos h4] at hd
      have HD:Hid (downL f (swapL ys i (2*i+2)) (2*i+2) n=downL xs.length xs 0 n):=hd.trans hZ
      have tok1:Hid True:=trivial
      clear hZ hd hf hy hs hn hS hc h1 h2 hi hl h4 hj' h3
      go_wp2_with (first|(clear tok1;go_at_call 115;refine (less_at HN.out (2*i+2) (2*i+1) (by omega) (by omega) (by have:=HB.out;omega) (by have:=HB.out;omega) (B:=true) H3.out).mono ?_;rintro e w1 ⟨rfl,D1⟩;have l1:=m_less w1 p po _ _ _ D1.hdr;have HN1:Hid (Dn w w1 p po b cap t ys xs.length):=D1;clear D1 l0;have tok2:Hid True:=trivial)|(clear tok2;go_at_call 115;refine (less_at HN1.out (2*i+2) i (by omega) rfl (by have:=HB.out;omega) (by have:=HB.out;omega) (B:=true) H4.out).mono ?_;rintro e w2 ⟨rfl,D2⟩;have s2:=m_swap w2 p po _ _ _ D2.hdr;have HN2:Hid (Dn w w2 p po b cap t ys xs.length):=D2;clear D2)|(go_at_call 116;refine (swap_at hpb HN2.out i (2*i+2) rfl (by omega) (by have:=HB.out;omega) (by have:=HB.out;omega)).mono ?_;rintro e w3 ⟨⟨v3,rfl⟩,D3⟩;have HN3:Hid (Dn w w3 p po b cap t (swapL ys i (2*i+2)) xs.length):=D3;clear D3))
      exact ⟨⟨2*i+2,f,swapL ys i (2*i+2),by simp,by have:=HB.out;omega,HN3.out.sh,HN3.out.len,HD.out,by have:=HB.out;omega⟩,by have:=HB.out;simp [intOf];omega⟩
     ·have H4:Hid (decide (ys.getD (2*i+2) 0<ys.getD i 0)=false):=by unfold Hid;simpa using h4
      rw [if_neg h4] at hd
      have HD:Hid (ys=downL xs.length xs 0 n):=hd.trans hZ
      have tok1:Hid True:=trivial
      clear hZ hd hf hy hs hn hS hc h1 h2 hi hl h4 hj' h3
      go_wp2_with (first|(clear tok1;go_at_call 115;refine (less_at HN.out (2*i+2) (2*i+1) (by omega) (by omega) (by have:=HB.out;omega) (by have:=HB.out;omega) (B:=true) H3.out).mono ?_;rintro e w1 ⟨rfl,D1⟩;have l1:=m_less w1 p po _ _ _ D1.hdr;have HN1:Hid (Dn w w1 p po b cap t ys xs.length):=D1;clear D1 l0;have tok2:Hid True:=trivial)|(clear tok2;go_at_call 115;refine (less_at HN1.out (2*i+2) i (by omega) rfl (by have:=HB.out;omega) (by have:=HB.out;omega) (B:=false) H4.out).mono ?_;rintro e w2 ⟨rfl,D2⟩;have s2:=m_swap w2 p po _ _ _ D2.hdr;have HN2:Hid (Dn w w2 p po b cap t ys xs.length):=D2;clear D2))
      go_ret
      exact ⟨⟨_,rfl⟩,by rw [← HD.out];exact HN2.out.sh⟩
    ·have H3:Hid (decide (ys.getD (2*i+2) 0<ys.getD (2*i+1) 0)=false):=by unfold Hid;simpa using h3
     rw [if_neg (fun h=>h3 h.2:¬ (2*i+2<n∧ys.getD (2*i+2) 0<ys.getD (2*i+1) 0))] at hd
     have hj':2*i+1<ys.length:=by omega
     by_cases h4:ys.getD (2*i+1) 0<ys.getD i 0
     ·have H4:Hid (decide (ys.getD (2*i+1) 0<ys.getD i 0)=true):=by unfold Hid;simpa using h4
      rw [if_pos h4] at hd
      have HD:Hid (downL f (swapL ys i (2*i+1)) (2*i+1) n=downL xs.length xs 0 n):=hd.trans hZ
      have tok1:Hid True:=trivial
      clear hZ hd hf hy hs hn hS hc h1 h2 hi hl h4 hj' h3
      go_wp2_with (first|(clear tok1;go_at_call 115;refine (less_at HN.out (2*i+2) (2*i+1) (by omega) (by omega) (by have:=HB.out;omega) (by have:=HB.out;omega) (B:=false) H3.out).mono ?_;rintro e w1 ⟨rfl,D1⟩;have l1:=m_less w1 p po _ _ _ D1.hdr;have HN1:Hid (Dn w w1 p po b cap t ys xs.length):=D1;clear D1 l0;have tok2:Hid True:=trivial)|(clear tok2;go_at_call 115;refine (less_at HN1.out (2*i+1) i (by omega) rfl (by have:=HB.out;omega) (by have:=HB.out;omega) (B:=true) H4.out).mono ?_;rintro e w2 ⟨rfl,D2⟩;have s2:=m_swap w2 p po _ _ _ D2.hdr;have HN2:Hid (Dn w w2 p po b cap t ys xs.length):=D2;clear D2)|(go_at_call 116;refine (swap_at hpb HN2.out i (2*i+1) rfl (by omega) (by have:=HB.out;omega) (by have:=HB.out;omega)).mono ?_;rintro e w3 ⟨⟨v3,rfl⟩,D3⟩;have HN3:Hid (Dn w w3 p po b cap t (swapL ys i (2*i+1)) xs.length):=D3;clear D3))
      exact ⟨⟨2*i+1,f,swapL ys i (2*i+1),by simp,by have:=HB.out;omega,HN3.out.sh,HN3.out.len,HD.out,by have:=HB.out;omega⟩,by have:=HB.out;simp [intOf];omega⟩
     ·have H4:Hid (decide (ys.getD (2*i+1) 0<ys.getD i 0)=false):=by unfold Hid;simpa using h4
      rw [if_neg h4] at hd
      have HD:Hid (ys=downL xs.length xs 0 n):=hd.trans hZ
      have tok1:Hid True:=trivial
      clear hZ hd hf hy hs hn hS hc h1 h2 hi hl h4 hj' h3
      go_wp2_with (first|(clear tok1;go_at_call 115;refine (less_at HN.out (2*i+2) (2*i+1) (by omega) (by omega) (by have:=HB.out;omega) (by have:=HB.out;omega) (B:=false) H3.out).mono ?_;rintro e w1 ⟨rfl,D1⟩;have l1:=m_less w1 p po _ _ _ D1.hdr;have HN1:Hid (Dn w w1 p po b cap t ys xs.length):=D1;clear D1 l0;have tok2:Hid True:=trivial)|(clear tok2;go_at_call 115;refine (less_at HN1.out (2*i+1) i (by omega) rfl (by have:=HB.out;omega) (by have:=HB.out;omega) (B:=false) H4.out).mono ?_;rintro e w2 ⟨rfl,D2⟩;have s2:=m_swap w2 p po _ _ _ D2.hdr;have HN2:Hid (Dn w w2 p po b cap t ys xs.length):=D2;clear D2))
      go_ret
      exact ⟨⟨_,rfl⟩,by rw [← HD.out];exact HN2.out.sh⟩
   ·have g2:¬ (2*(i:Int)+2<(n:Int)):=by omega
    rw [if_neg (fun h=>h2 h.1:¬ (2*i+2<n∧ys.getD (2*i+2) 0<ys.getD (2*i+1) 0))] at hd
    have hj':2*i+1<ys.length:=by omega
    by_cases h4:ys.getD (2*i+1) 0<ys.getD i 0
    ·have H4:Hid (decide (ys.getD (2*i+1) 0<ys.getD i 0)=true):=by unfold Hid;simpa using h4
     rw [if_pos h4] at hd
     have HD:Hid (downL f (swapL ys i (2*i+1)) (2*i+1) n=downL xs.length xs 0 n):=hd.trans hZ
     have tok1:Hid True:=trivial
     clear hZ hd hf hy hs hn hS hc h1 h2 hi hl h4 hj'
     go_wp2_with (first|(clear tok1;go_at_call 115;refine (less_at HN.out (2*i+1) i (by omega) rfl (by have:=HB.out;omega) (by have:=HB.out;omega) (B:=true) H4.out).mono ?_;rintro e w2 ⟨rfl,D2⟩;have s2:=m_swap w2 p po _ _ _ D2.hdr;have HN2:Hid (Dn w w2 p po b cap t ys xs.length):=D2;clear D2)|(go_at_call 116;refine (swap_at hpb HN2.out i (2*i+1) rfl (by omega) (by have:=HB.out;omega) (by have:=HB.out;omega)).mono ?_;rintro e w3 ⟨⟨v3,rfl⟩,D3⟩;have HN3:Hid (Dn w w3 p po b cap t (swapL ys i (2*i+1)) xs.length):=D3;clear D3))
     exact ⟨⟨2*i+1,f,swapL ys i (2*i+1),by simp,by have:=HB.out;omega,HN3.out.sh,HN3.out.len,HD.out,by have:=HB.out;omega⟩,by have:=HB.out;simp [intOf];omega⟩
    ·have H4:Hid (decide (ys.getD (2*i+1) 0<ys.getD i 0)=false):=by unfold Hid;simpa using h4
     rw [if_neg h4] at hd
     have HD:Hid (ys=downL xs.length xs 0 n):=hd.trans hZ
     have tok1:Hid True:=trivial
     clear hZ hd hf hy hs hn hS hc h1 h2 hi hl h4 hj'
     go_wp2_with (first|(clear tok1;go_at_call 115;refine (less_at HN.out (2*i+1) i (by omega) rfl (by have:=HB.out;omega) (by have:=HB.out;omega) (B:=false) H4.out).mono ?_;rintro e w2 ⟨rfl,D2⟩;have s2:=m_swap w2 p po _ _ _ D2.hdr;have HN2:Hid (Dn w w2 p po b cap t ys xs.length):=D2;clear D2))
     go_ret
     exact ⟨⟨_,rfl⟩,by rw [← HD.out];exact HN2.out.sh⟩
attribute [local go_sem ↓] Go.wp_at_zero Go.wp_at_succ
theorem Sh.trans {w w1 w2:World}{b:Nat}{t:TypeId}{xs ys:List Int}(h:Sh w w1 b t xs)(k:Sh w1 w2 b t ys):Sh w w2 b t ys :=
 ⟨k.size.trans h.size,fun i hi=>(k.oth i hi).trans (h.oth i hi),k.row⟩
theorem Sh.froz {w w':World}{b:Nat}{t:TypeId}{xs:List Int}(h:Sh w w' b t xs){p po:Nat}(hp:p≠b):w'.frozen? ⟨p,po,none⟩=w.frozen? ⟨p,po,none⟩:=by
 simp only [World.frozen?,h.oth p hp]
theorem Sh.base {w w':World}{b:Nat}{t:TypeId}{xs:List Int}(h:Sh w w' b t xs):Sh w' w' b t xs:=⟨rfl,fun _ _=>rfl,h.row⟩
theorem down_at {w w':World}{p po b cap:Nat}{t:TypeId}{ys:List Int}{m:Nat}(hpb:p≠b)(D:Dn w w' p po b cap t ys m)(hm:m≤40){J:Int}(n:Nat)(hJ:J=n)(hn:n≤m) :
  Calls Tryd.prog 97 #[.iface 129 (.pointer (some ⟨p,po,none⟩)),.int .i64 0,.int .i64 J] w' fun e w2=>(∃ v,e=.returned v)∧Dn w w2 p po b cap t (downL m ys 0 n) m:=by
 subst hJ
 have hl:=D.len
 subst hl
 refine (down_any w' p po b cap n t ys hpb hm D.hdr hn D.sh.base).mono ?_
 rintro e w2 ⟨hv,h⟩
 have h2:=D.sh.trans h
 exact ⟨hv,h2,downL_len _ _ _ _,by rw [h2.hdr hpb,← D.sh.hdr hpb];exact D.hdr⟩
theorem pop_spec:PopSpec:=by
 intro v p b cap c t xs hp hpb hx hl hcap hc hz hb hH
 obtain ⟨pb,po,ps⟩:=p
 obtain rfl:ps=none:=hp
 have hpb':pb≠b:=hpb
 obtain ⟨m,hm⟩:∃ m,xs.length=m+1:=⟨xs.length - 1,by have:xs.length≠0:=fun h=>hx (List.length_eq_zero_iff.1 h);omega⟩
 have D0:Hid (Dn v v pb po b cap t xs (m+1)):=⟨⟨rfl,fun _ _=>rfl,c,hb,hH⟩,hm,by rw [hc,hm]⟩
 have HB:Hid (m+1≤40∧m+1≤cap∧v.frozen? ⟨pb,po,none⟩=false):=⟨by omega,by omega,hz⟩
 have HX:Hid (xs.length=m+1):=hm
 have l0:=m_len v pb po _ _ _ D0.out.hdr
 have s0:=m_swap v pb po _ _ _ D0.out.hdr
 have hmm:m<1000:=by omega
 have mp:=m_pop
 clear hb hH hc hz hl hcap hx hpb hm
 go_enter Tryd.func94,Tryd.ntmps94
 go_wp2_with (first|(go_at_call 114;refine (flen_any _ _ _ _).mono ?_;rintro e w0 ⟨rfl,rfl⟩)|(go_at_call 116;refine (swap_at hpb' D0.out 0 m rfl (by omega) (by omega) (by omega)).mono ?_;rintro e w1 ⟨⟨v1,rfl⟩,D1⟩;have H1:Hid (Dn _ w1 pb po b cap t (swapL xs 0 m) (m+1)):=D1;clear D1)|(go_at_call 97;refine (down_at hpb' H1.out HB.out.1 m (by omega) (by omega)).mono ?_;rintro e w2 ⟨⟨v2,rfl⟩,D2⟩;have H2:Hid (Dn _ w2 pb po b cap t (downL (m+1) (swapL xs 0 m) 0 m) (m+1)):=D2;clear D2)|(go_at_call 117;refine (fpop_any _ ⟨pb,po,none⟩ rfl b m cap _ HB.out.2.1 hpb' H2.out.hdr (by rw [H2.out.sh.froz hpb'];exact HB.out.2.2) (H2.out.sh.cell (by have:=H2.out.len;omega)) (by have:=HB.out.1;omega)).mono ?_;rintro e w3 ⟨⟨v3,rfl⟩,rfl⟩))
 go_ret
 have D2:=H2.out
 have hX:=HX.out
 obtain ⟨c',h1,h2⟩:=D2.sh.row
 have hpl:popL xs=(downL (m+1) (swapL xs 0 m) 0 m).take m:=by unfold popL;rw [hX];rfl
 refine ⟨⟨_,rfl⟩,c',fun i x hi=>h2 i x ?_,popL_len xs,?_,?_,?_,fun k _ hk1 hk2=>?_⟩
 ·rw [hpl,List.getElem?_take] at hi
  split at hi
  ·exact hi
  ·cases hi
 ·simp [World.setCell];exact Nat.le_of_eq D2.sh.size.symm
 ·rw [Br.heap_setCell,if_neg hpb'];exact h1
 ·rw [Br.heap_setCell,if_pos rfl,Br.heap_setCell,if_pos rfl,D2.sh.oth pb hpb',hX];rfl
 ·rw [Br.heap_setCell,if_neg (fun e=>hk2 e.symm)];exact D2.sh.oth k hk1
attribute [local go_sem ↓] Go.wp_at_zero Go.wp_at_succ
theorem less_q {w w':World}{p po b cap:Nat}{t:TypeId}{ys:List Int}{m:Nat}(D:Dn w w' p po b cap t ys m){I J:Int}(i j:Nat)(hI:I=i)(hJ:J=j)(hi:i<m)(hj:j<m){B:Bool}(hB:decide (ys.getD i 0<ys.getD j 0)=B):Calls Tryd.prog 115 #[.slice (some ⟨b,0,none⟩) m cap,.int .i64 I,.int .i64 J] w' fun e w2=>e=.returned (.bool B)∧∃ q,w2=w'.drewN q:=by
 subst hI hJ hB
 have hl:=D.len
 exact fless_any w' b m cap i j _ _ hi hj (D.sh.cell (by omega)) (D.sh.cell (by omega))
theorem up_zero {w w':World}{p po b cap:Nat}{t:TypeId}{ys:List Int}{m:Nat}(D:Dn w w' p po b cap t ys m) :
  Calls Tryd.prog 96 #[.iface 129 (.pointer (some ⟨p,po,none⟩)),.int .i64 0] w' fun e w2=>(∃ v,e=.returned v)∧∃ q,w2=w'.drewN q:=by
 have HD:Hid (Dn w w' p po b cap t ys m):=D
 clear D
 go_enter Tryd.func96,Tryd.ntmps96
 go_wp2_with fail
 go_loopw [1] (fun s w2=>s=.int .i64 0∧w2=w') (fun s _=>0)
 case atStart=>exact ⟨rfl,rfl⟩
 case round =>
  obtain ⟨rfl,rfl⟩:=hrel
  go_wp2_with fail
  go_end0
  exact ⟨⟨_,rfl⟩,0,rfl⟩
theorem up_still {w w':World}{p po b cap:Nat}{t:TypeId}{ys:List Int}{m:Nat}(D:Dn w w' p po b cap t ys m)(j:Nat)(hj:j+1<m)(hm:m≤40)(hle:ys.getD (j / 2) 0≤ys.getD (j+1) 0) :
  Calls Tryd.prog 96 #[.iface 129 (.pointer (some ⟨p,po,none⟩)),.int .i64 ((j:Int)+1)] w' fun e w2=>(∃ v,e=.returned v)∧∃ q,w2=w'.drewN q:=by
 have HD:Hid (Dn w w' p po b cap t ys m):=D
 have l0:=m_less w' p po _ _ _ D.hdr
 have HB:Hid (decide (ys.getD (j+1) 0<ys.getD (j / 2) 0)=false):=by unfold Hid;simpa using hle
 have hjj:j<1000:=by omega
 have q1:Int.tdiv (j:Int) 2=((j / 2:Nat):Int):=by simp [Int.tdiv]
 have q2:¬ ((j:Int) / 2=(j:Int)+1):=by omega
 have HJ:Hid (j+1<m∧m≤40):=⟨hj,hm⟩
 clear D hle hj hm
 go_enter Tryd.func96,Tryd.ntmps96
 go_wp2_with fail
 go_loopw [1] (fun s w2=>s=.int .i64 ((j:Int)+1)∧w2=w') (fun s _=>0)
 case atStart=>exact ⟨rfl,rfl⟩
 case round =>
  obtain ⟨rfl,rfl⟩:=hrel
  go_wp2_with (go_at_call 115;refine (less_q HD.out (j+1) (j / 2) (by omega) (by omega) (by have:=HJ.out;omega) (by have:=HJ.out;omega) (B:=false) HB.out).mono ?_;rintro e w1 ⟨rfl,q,rfl⟩)
  go_end0
  exact ⟨⟨_,rfl⟩,q,rfl⟩
attribute [local go_sem ↓] Go.wp_at_zero Go.wp_at_succ
theorem infoInt':(Tryd.prog.info? 3).map (fun i=>(i.zero,i.size,i.bytes))=some (some (.int .i64 0),1,8):=by kernel_rfl
theorem one_news' (wr:World)(v:Value)(j:Nat)(u:Value)(hu:[v][j]?=some u):(wr.alloc (.cells #[v] 3)).cell? ((⟨wr.heap.size,0,none⟩:Addr).add j)=some u:=by
 have hb:(wr.alloc (.cells #[v] 3)).heap[wr.heap.size]?=some (.cells #[v] 3):=by show (wr.heap.push _)[wr.heap.size]?=_;simp
 rw [Addr.add_mid,Nat.zero_add]
 simp only [World.cell?,hb]
 simpa using hu
theorem one_one' (v:Int):∀ u∈[Value.int .i64 v],u.oneCell'=true:=by simp [Value.oneCell']
def heldL (f:Nat→Int)(k:Nat):List Int:=((List.range k).filter fun j=>f j != -1).map Int.ofNat
theorem heldL_succ (f:Nat→Int)(k:Nat):heldL f (k+1)=heldL f k ++ (if f k != -1 then [(k:Int)] else []):=by
 unfold heldL
 rw [List.range_succ,List.filter_append,List.map_append]
 congr 1
 by_cases h:f k=-1<;>simp [h]
theorem heldL_len (f:Nat→Int)(k:Nat):(heldL f k).length≤k:=by
 unfold heldL
 rw [List.length_map]
 exact Nat.le_trans (List.length_filter_le _ _) (by simp)
def ints (xs:List Int):List Value:=xs.map fun x=>.int .i64 x
structure Lis (w w':World) (V:Value) (xs:List Int):Prop where
 bel:Below w.heap.size w w'
 own:w'.ownsRow w.heap.size 3 1 V xs.length (ints xs)
theorem Lis.later {w wr W:World}{V:Value}{xs:List Int}(h:Lis w wr V xs)(b:Below wr.heap.size wr W):Lis w W V xs:=by
 refine ⟨⟨b.os.trans h.bel.os,b.tape.trans h.bel.tape,b.output.trans h.bel.output,Nat.le_trans h.bel.size b.size,fun k hk=>(b.block k (Nat.lt_of_lt_of_le hk h.bel.size)).trans (h.bel.block k hk)⟩,h.own.1,?_⟩
 rcases h.own.2 with h|⟨g,cap,cur,e,hg,hgg,rest⟩
 ·exact .inl h
 ·exact .inr ⟨g,cap,cur,e,hg,by rw [b.block g (Array.getElem?_eq_some_iff.1 hgg).1];exact hgg,rest⟩
theorem lis_app {w W:World}{V:Value}{xs:List Int}(L:Lis w W V xs)(hn:xs.length≤40)(val:Int){ops:Array Oper}{rest:List Oper}{o:Oper}{a:Go.Act}{Q:Exit→Go.Act→World→Prop}(hgd:o.guard=none)(s x:Operand)
  (ho:o.op=.call { callee:=.builtin .append,args:=#[s,x],argTypes:=#[22,22] })(hs:a.eval s=V)(H:Nat)(hH:W.heap.size=H)(hx:a.eval x=.slice (some ⟨H,0,none⟩) 1 1)
  (h:∀ V' W',Lis w W' V' (xs ++ [val])→wpList Tryd.prog ops Q rest (a.put o.dst V') W') :
  wpList Tryd.prog ops Q (o::rest) a (W.alloc (.cells #[.int .i64 val] 3)):=by
 subst hH
 have hinfo:=infoInt'
 cases hq:Tryd.prog.info? 3 with
 | none=>rw [hq] at hinfo;cases hinfo
 | some i =>
  rw [hq] at hinfo
  simp only [Option.map_some,Option.some.injEq,Prod.mk.injEq] at hinfo
  have b0:Below W.heap.size W (W.alloc (.cells #[.int .i64 val] 3)):=(Below.refl _ _).alloc (Nat.le_refl _) _
  have L0:=L.later b0
  refine wpList_append_lies _ hgd s x 22 ho w.heap.size 3 i _ 1 8 Tryd.underlying22 hq hinfo.1 hinfo.2.1 hinfo.2.2 (by rfl) (by omega) V xs.length (ints xs) hs L0.own ⟨W.heap.size,0,none⟩ 1 1 [.int .i64 val] hx rfl (one_news' _ _) (one_one' _) (by omega) (by simp [maxLen];omega) (by omega) (by have:=L.bel.size;simp;omega) (W.heap.size+1) (by simp) ?_
  intro g cap w2 o2 g2 at2 lt2
  refine h _ w2 ⟨⟨g2.os.trans L0.bel.os,g2.tape.trans L0.bel.tape,g2.output.trans L0.bel.output,Nat.le_trans L0.bel.size g2.size,fun q hq=>?_⟩,by simpa [ints] using o2⟩
  rw [g2.block q (by have:=L0.bel.size;omega) (fun h=>by have:=(L0.own.lt q h.symm).1;omega)];exact L0.bel.block q hq
theorem lis_nil (w w':World)(h:Below w.heap.size w w'):Lis w w' (.slice none 0 0) []:=⟨h,World.ownsRow_nil _ _ _ _⟩
theorem pages_any (w:World)(x0 x1 x2 x3 x4 x5 x6 x7 x8 x9 y0 y1:Value)(f:Nat→Int)(b0 b1 b2 b3:Bool) :
  Calls Tryd.prog 88 #[.agg #[x0,x1,x2,.int .i64 (f 0),.bool b0,.int .i64 (f 1),.bool b1,.int .i64 (f 2),.bool b2,.int .i64 (f 3),.bool b3,x3,x4,x5,x6,x7,x8,x9,y0,y1]] w fun e w'=>∃ V,e=.returned V∧Lis w w' V (heldL f 4):=by
 have i0:∀ w,(Instr.index 50 (.agg #[.int .i64 (f 0),.bool b0,.int .i64 (f 1),.bool b1,.int .i64 (f 2),.bool b2,.int .i64 (f 3),.bool b3]) (.int .i64 0)).run Tryd.prog w=.ok (.agg #[.int .i64 (f 0),.bool b0]) w:=fun _=>by kernel_rfl
 have i1:∀ w,(Instr.index 50 (.agg #[.int .i64 (f 0),.bool b0,.int .i64 (f 1),.bool b1,.int .i64 (f 2),.bool b2,.int .i64 (f 3),.bool b3]) (.int .i64 1)).run Tryd.prog w=.ok (.agg #[.int .i64 (f 1),.bool b1]) w:=fun _=>by kernel_rfl
 have i2:∀ w,(Instr.index 50 (.agg #[.int .i64 (f 0),.bool b0,.int .i64 (f 1),.bool b1,.int .i64 (f 2),.bool b2,.int .i64 (f 3),.bool b3]) (.int .i64 2)).run Tryd.prog w=.ok (.agg #[.int .i64 (f 2),.bool b2]) w:=fun _=>by kernel_rfl
 have i3:∀ w,(Instr.index 50 (.agg #[.int .i64 (f 0),.bool b0,.int .i64 (f 1),.bool b1,.int .i64 (f 2),.bool b2,.int .i64 (f 3),.bool b3]) (.int .i64 3)).run Tryd.prog w=.ok (.agg #[.int .i64 (f 3),.bool b3]) w:=fun _=>by kernel_rfl
 go_enter Tryd.func88,Tryd.ntmps88
 go_wp2_with fail
 go_loopw [3,8] (fun s i w'=>∃ k:Nat,k≤4∧i=.int .i64 k∧Lis w w' s (heldL f k)) (fun _ i _=>4 - (intOf i).toNat)
 case atStart=>exact ⟨0,by omega,rfl,lis_nil _ _ ((Below.refl _ _).alloc (Nat.le_refl _) _)⟩
 case round =>
  obtain ⟨k,hk,rfl,hL⟩:=hrel
  have HL:Hid (Lis w wr u3 (heldL f k)):=hL
  clear hL
  by_cases h4:k=4
  ·subst h4
   go_wp2
   go_ret
   exact ⟨_,rfl,HL.out⟩
  have hq:k=0∨k=1∨k=2∨k=3:=by omega
  clear h4 hk
  rcases hq with rfl|rfl|rfl|rfl
  ·cases hf:(f 0 != -1)
   ·go_wp2
    exact ⟨⟨1,by omega,by go_num,by have:=heldL_succ f 0;rw [hf,if_neg (by decide),List.append_nil] at this;rw [this];exact HL.out.later ((Below.refl _ _).alloc (Nat.le_refl _) _)⟩,by simp [intOf]⟩
   ·go_wp2_with (refine lis_app (w:=w) (W:=wr.alloc (.cells #[.int .i64 (f 0),.bool b0] 49)) (xs:=heldL f 0) (HL.out.later ((Below.refl _ _).alloc (Nat.le_refl _) _)) (by have:=heldL_len f 0;omega) 0 rfl _ _ rfl rfl (wr.heap.size+1) (by simp) rfl ?_;intro V' W' L';have HL':Hid (Lis w W' V' (heldL f 0 ++ [0])):=L';clear L')
    exact ⟨⟨1,by omega,by go_num,by have:=heldL_succ f 0;rw [hf,if_pos rfl] at this;rw [this];exact HL'.out⟩,by simp [intOf]⟩
  ·cases hf:(f 1 != -1)
   ·go_wp2
    exact ⟨⟨2,by omega,by go_num,by have:=heldL_succ f 1;rw [hf,if_neg (by decide),List.append_nil] at this;rw [this];exact HL.out.later ((Below.refl _ _).alloc (Nat.le_refl _) _)⟩,by simp [intOf]⟩
   ·go_wp2_with (refine lis_app (w:=w) (W:=wr.alloc (.cells #[.int .i64 (f 1),.bool b1] 49)) (xs:=heldL f 1) (HL.out.later ((Below.refl _ _).alloc (Nat.le_refl _) _)) (by have:=heldL_len f 1;omega) 1 rfl _ _ rfl rfl (wr.heap.size+1) (by simp) rfl ?_;intro V' W' L';have HL':Hid (Lis w W' V' (heldL f 1 ++ [1])):=L';clear L')
    exact ⟨⟨2,by omega,by go_num,by have:=heldL_succ f 1;rw [hf,if_pos rfl] at this;rw [this];exact HL'.out⟩,by simp [intOf]⟩
  ·cases hf:(f 2 != -1)
   ·go_wp2
    exact ⟨⟨3,by omega,by go_num,by have:=heldL_succ f 2;rw [hf,if_neg (by decide),List.append_nil] at this;rw [this];exact HL.out.later ((Below.refl _ _).alloc (Nat.le_refl _) _)⟩,by simp [intOf]⟩
   ·go_wp2_with (refine lis_app (w:=w) (W:=wr.alloc (.cells #[.int .i64 (f 2),.bool b2] 49)) (xs:=heldL f 2) (HL.out.later ((Below.refl _ _).alloc (Nat.le_refl _) _)) (by have:=heldL_len f 2;omega) 2 rfl _ _ rfl rfl (wr.heap.size+1) (by simp) rfl ?_;intro V' W' L';have HL':Hid (Lis w W' V' (heldL f 2 ++ [2])):=L';clear L')
    exact ⟨⟨3,by omega,by go_num,by have:=heldL_succ f 2;rw [hf,if_pos rfl] at this;rw [this];exact HL'.out⟩,by simp [intOf]⟩
  ·cases hf:(f 3 != -1)
   ·go_wp2
    exact ⟨⟨4,by omega,by go_num,by have:=heldL_succ f 3;rw [hf,if_neg (by decide),List.append_nil] at this;rw [this];exact HL.out.later ((Below.refl _ _).alloc (Nat.le_refl _) _)⟩,by simp [intOf]⟩
   ·go_wp2_with (refine lis_app (w:=w) (W:=wr.alloc (.cells #[.int .i64 (f 3),.bool b3] 49)) (xs:=heldL f 3) (HL.out.later ((Below.refl _ _).alloc (Nat.le_refl _) _)) (by have:=heldL_len f 3;omega) 3 rfl _ _ rfl rfl (wr.heap.size+1) (by simp) rfl ?_;intro V' W' L';have HL':Hid (Lis w W' V' (heldL f 3 ++ [3])):=L';clear L')
    exact ⟨⟨4,by omega,by go_num,by have:=heldL_succ f 3;rw [hf,if_pos rfl] at this;rw [this];exact HL'.out⟩,by simp [intOf]⟩
theorem files_any (w:World)(x0 x1 x2 x3 x4 x5 x6 x7 x8 x9 y0 y1:Value)(f:Nat→Int)(b0 b1 b2 b3:Bool) :
  Calls Tryd.prog 90 #[.agg #[x0,x1,x2,x3,x4,x5,x6,x7,x8,x9,y0,.int .i64 (f 0),.bool b0,.int .i64 (f 1),.bool b1,.int .i64 (f 2),.bool b2,.int .i64 (f 3),.bool b3,y1]] w fun e w'=>∃ V,e=.returned V∧Lis w w' V (heldL f 4):=by
 have i0:∀ w,(Instr.index 53 (.agg #[.int .i64 (f 0),.bool b0,.int .i64 (f 1),.bool b1,.int .i64 (f 2),.bool b2,.int .i64 (f 3),.bool b3]) (.int .i64 0)).run Tryd.prog w=.ok (.agg #[.int .i64 (f 0),.bool b0]) w:=fun _=>by kernel_rfl
 have i1:∀ w,(Instr.index 53 (.agg #[.int .i64 (f 0),.bool b0,.int .i64 (f 1),.bool b1,.int .i64 (f 2),.bool b2,.int .i64 (f 3),.bool b3]) (.int .i64 1)).run Tryd.prog w=.ok (.agg #[.int .i64 (f 1),.bool b1]) w:=fun _=>by kernel_rfl
 have i2:∀ w,(Instr.index 53 (.agg #[.int .i64 (f 0),.bool b0,.int .i64 (f 1),.bool b1,.int .i64 (f 2),.bool b2,.int .i64 (f 3),.bool b3]) (.int .i64 2)).run Tryd.prog w=.ok (.agg #[.int .i64 (f 2),.bool b2]) w:=fun _=>by kernel_rfl
 have i3:∀ w,(Instr.index 53 (.agg #[.int .i64 (f 0),.bool b0,.int .i64 (f 1),.bool b1,.int .i64 (f 2),.bool b2,.int .i64 (f 3),.bool b3]) (.int .i64 3)).run Tryd.prog w=.ok (.agg #[.int .i64 (f 3),.bool b3]) w:=fun _=>by kernel_rfl
 go_enter Tryd.func90,Tryd.ntmps90
 go_wp2_with fail
 go_loopw [3,8] (fun s i w'=>∃ k:Nat,k≤4∧i=.int .i64 k∧Lis w w' s (heldL f k)) (fun _ i _=>4 - (intOf i).toNat)
 case atStart=>exact ⟨0,by omega,rfl,lis_nil _ _ ((Below.refl _ _).alloc (Nat.le_refl _) _)⟩
 case round =>
  obtain ⟨k,hk,rfl,hL⟩:=hrel
  have HL:Hid (Lis w wr u3 (heldL f k)):=hL
  clear hL
  by_cases h4:k=4
  ·subst h4
   go_wp2
   go_ret
   exact ⟨_,rfl,HL.out⟩
  have hq:k=0∨k=1∨k=2∨k=3:=by omega
  clear h4 hk
  rcases hq with rfl|rfl|rfl|rfl
  ·cases hf:(f 0 != -1)
   ·go_wp2
    exact ⟨⟨1,by omega,by go_num,by have:=heldL_succ f 0;rw [hf,if_neg (by decide),List.append_nil] at this;rw [this];exact HL.out.later ((Below.refl _ _).alloc (Nat.le_refl _) _)⟩,by simp [intOf]⟩
   ·go_wp2_with (refine lis_app (w:=w) (W:=wr.alloc (.cells #[.int .i64 (f 0),.bool b0] 52)) (xs:=heldL f 0) (HL.out.later ((Below.refl _ _).alloc (Nat.le_refl _) _)) (by have:=heldL_len f 0;omega) 0 rfl _ _ rfl rfl (wr.heap.size+1) (by simp) rfl ?_;intro V' W' L';have HL':Hid (Lis w W' V' (heldL f 0 ++ [0])):=L';clear L')
    exact ⟨⟨1,by omega,by go_num,by have:=heldL_succ f 0;rw [hf,if_pos rfl] at this;rw [this];exact HL'.out⟩,by simp [intOf]⟩
  ·cases hf:(f 1 != -1)
   ·go_wp2
    exact ⟨⟨2,by omega,by go_num,by have:=heldL_succ f 1;rw [hf,if_neg (by decide),List.append_nil] at this;rw [this];exact HL.out.later ((Below.refl _ _).alloc (Nat.le_refl _) _)⟩,by simp [intOf]⟩
   ·go_wp2_with (refine lis_app (w:=w) (W:=wr.alloc (.cells #[.int .i64 (f 1),.bool b1] 52)) (xs:=heldL f 1) (HL.out.later ((Below.refl _ _).alloc (Nat.le_refl _) _)) (by have:=heldL_len f 1;omega) 1 rfl _ _ rfl rfl (wr.heap.size+1) (by simp) rfl ?_;intro V' W' L';have HL':Hid (Lis w W' V' (heldL f 1 ++ [1])):=L';clear L')
    exact ⟨⟨2,by omega,by go_num,by have:=heldL_succ f 1;rw [hf,if_pos rfl] at this;rw [this];exact HL'.out⟩,by simp [intOf]⟩
  ·cases hf:(f 2 != -1)
   ·go_wp2
    exact ⟨⟨3,by omega,by go_num,by have:=heldL_succ f 2;rw [hf,if_neg (by decide),List.append_nil] at this;rw [this];exact HL.out.later ((Below.refl _ _).alloc (Nat.le_refl _) _)⟩,by simp [intOf]⟩
   ·go_wp2_with (refine lis_app (w:=w) (W:=wr.alloc (.cells #[.int .i64 (f 2),.bool b2] 52)) (xs:=heldL f 2) (HL.out.later ((Below.refl _ _).alloc (Nat.le_refl _) _)) (by have:=heldL_len f 2;omega) 2 rfl _ _ rfl rfl (wr.heap.size+1) (by simp) rfl ?_;intro V' W' L';have HL':Hid (Lis w W' V' (heldL f 2 ++ [2])):=L';clear L')
    exact ⟨⟨3,by omega,by go_num,by have:=heldL_succ f 2;rw [hf,if_pos rfl] at this;rw [this];exact HL'.out⟩,by simp [intOf]⟩
  ·cases hf:(f 3 != -1)
   ·go_wp2
    exact ⟨⟨4,by omega,by go_num,by have:=heldL_succ f 3;rw [hf,if_neg (by decide),List.append_nil] at this;rw [this];exact HL.out.later ((Below.refl _ _).alloc (Nat.le_refl _) _)⟩,by simp [intOf]⟩
   ·go_wp2_with (refine lis_app (w:=w) (W:=wr.alloc (.cells #[.int .i64 (f 3),.bool b3] 52)) (xs:=heldL f 3) (HL.out.later ((Below.refl _ _).alloc (Nat.le_refl _) _)) (by have:=heldL_len f 3;omega) 3 rfl _ _ rfl rfl (wr.heap.size+1) (by simp) rfl ?_;intro V' W' L';have HL':Hid (Lis w W' V' (heldL f 3 ++ [3])):=L';clear L')
    exact ⟨⟨4,by omega,by go_num,by have:=heldL_succ f 3;rw [hf,if_pos rfl] at this;rw [this];exact HL'.out⟩,by simp [intOf]⟩
attribute [local go_sem ↓] Go.wp_at_zero Go.wp_at_succ
theorem step_lis {w U:World}{V:Value}{xs:List Int}(L:Lis w U V xs)(hn:xs.length≤40)(val:Int){ops:Array Oper}{o:Oper}{a:Go.Act}{K:Go.Act→World→Prop}{Q:Exit→Go.Act→World→Prop}{E:Prop}(hgd:o.guard=none)(s x:Operand)
  (ho:o.op=.call { callee:=.builtin .append,args:=#[s,x],argTypes:=#[109,109] })(hs:a.eval s=V)(H:Nat)(hH:U.heap[H]?=some (.cells #[.int .i64 val] 3))(hx:a.eval x=.slice (some ⟨H,0,none⟩) 1 1)
  (h:∀ g cap W',Lis w W' (.slice (some ⟨g,0,none⟩) (xs.length+1) cap) (xs ++ [val])→U.grownBy W' V.ownBlock→(V.ownBlock=some g∨g=U.heap.size)→K (a.put o.dst (.slice (some ⟨g,0,none⟩) (xs.length+1) cap)) W') :
  if Region.wanted o (yielded ops a.tmps)=true then Oper.wp Tryd.prog o a U K Q else E:=by
 have hinfo:=infoInt'
 cases hq:Tryd.prog.info? 3 with
 | none=>rw [hq] at hinfo;cases hinfo
 | some i =>
  rw [hq] at hinfo
  simp only [Option.map_some,Option.some.injEq,Prod.mk.injEq] at hinfo
  refine step_append_lies _ hgd s x 109 ho w.heap.size 3 i _ 1 8 (by kernel_rfl) hq hinfo.1 hinfo.2.1 hinfo.2.2 (by rfl) (by omega) V xs.length (ints xs) hs L.own ⟨H,0,none⟩ 1 1 [.int .i64 val] hx rfl (World.news_of_block hH) (one_one' _) (by omega) (by simp [maxLen];omega) (by omega) L.bel.size U.heap.size rfl ?_
  intro g cap w2 o2 g2 at2 lt2
  refine h g cap w2 ⟨⟨g2.os.trans L.bel.os,g2.tape.trans L.bel.tape,g2.output.trans L.bel.output,Nat.le_trans L.bel.size g2.size,fun q hq=>?_⟩,by simpa [ints] using o2⟩ g2 at2
  rw [g2.block q (by have:=L.bel.size;omega) (fun h=>by have:=(L.own.lt q h.symm).1;omega)];exact L.bel.block q hq
theorem new_here (u:World)(o:Obj):(u.alloc o).heap[u.heap.size]?=some o:=by show (u.heap.push _)[u.heap.size]?=_;simp
theorem below_al (u:World)(o:Obj):Below u.heap.size u (u.alloc o):=(Below.refl u.heap.size u).alloc (Nat.le_refl _) o
theorem below_da (u:World)(o:Obj):Below u.heap.size u (u.drew.alloc o):=⟨rfl,rfl,rfl,(below_al u o).size,(below_al u o).block⟩
theorem below_ad (u:World)(o:Obj):Below u.heap.size u (u.alloc o).drew:=⟨rfl,rfl,rfl,(below_al u o).size,(below_al u o).block⟩
theorem push_hdr {w' U W':World}{fp:Nat}{V:Value}(hc:w'.cell? ⟨fp,0,none⟩=some V)(hz:w'.frozen? ⟨fp,0,none⟩=false)(hV:V.ownBlock≠some fp)(b:Below w'.heap.size w' U)(g2:U.grownBy W' V.ownBlock):W'.cell? ⟨fp,0,none⟩=some V∧W'.frozen? ⟨fp,0,none⟩=false:=by
 have hlt:fp<w'.heap.size:=World.block_lt_of_cell? _ _ hc
 have e:W'.heap[fp]?=w'.heap[fp]?:=(g2.block fp (Nat.lt_of_lt_of_le hlt b.size) (fun e=>hV e.symm)).trans (b.block fp hlt)
 simp only [World.cell?,World.frozen?,e] at *
 exact ⟨hc,hz⟩
theorem push_end {w W':World}{fp g k cap:Nat}{V:Value}{ys:List Int}(L:Lis w W' (.slice (some ⟨g,0,none⟩) k cap) ys)(hfp:w.heap.size≤fp)(z1:W'.cell? ⟨fp,0,none⟩=some V)(z2:W'.frozen? ⟨fp,0,none⟩=false)(hne:g≠fp) :
  ∃ V',Lis w (W'.setCell ⟨fp,0,none⟩ (.slice (some ⟨g,0,none⟩) k cap)) V' ys∧(W'.setCell ⟨fp,0,none⟩ (.slice (some ⟨g,0,none⟩) k cap)).cell? ⟨fp,0,none⟩=some V'∧(W'.setCell ⟨fp,0,none⟩ (.slice (some ⟨g,0,none⟩) k cap)).frozen? ⟨fp,0,none⟩=false∧V'.ownBlock≠some fp:=by
 refine ⟨_,⟨L.bel.setCell hfp _,L.own.1,?_⟩,World.cell?_setCell_same _ _ _ z1,?_,fun e=>hne (Option.some.inj e)⟩
 ·rcases L.own.2 with h|⟨g',c',cur,e,h1,h2,rest⟩
  ·exact .inl h
  ·obtain ⟨rfl⟩:g=g':=by injection e with e1;injection e1 with e2;injection e2
   exact .inr ⟨g,c',cur,e,h1,by rw [Br.heap_setCell,if_neg (Ne.symm hne)];exact h2,rest⟩
 ·rw [World.frozen?_setCell];exact z2
theorem fpush_any {w w':World}{fp:Nat}{V:Value}{xs:List Int}(x:Int)(L:Lis w w' V xs)(hn:xs.length≤40)(hfp:w.heap.size≤fp)(hc:w'.cell? ⟨fp,0,none⟩=some V)(hz:w'.frozen? ⟨fp,0,none⟩=false)(hV:V.ownBlock≠some fp) :
  Calls Tryd.prog 118 #[.pointer (some ⟨fp,0,none⟩),.iface 3 (.int .i64 x)] w' fun e w2=>(∃ v,e=.returned v)∧∃ V',Lis w w2 V' (xs ++ [x])∧w2.cell? ⟨fp,0,none⟩=some V'∧w2.frozen? ⟨fp,0,none⟩=false∧V'.ownBlock≠some fp:=by
 obtain ⟨iN,hi⟩:∃ i,Tryd.prog.info? 3=some i∧i.zero=some (.int .i64 0)∧i.size=1∧i.bytes=8:=by
  have hinfo:=infoInt'
  cases hq:Tryd.prog.info? 3 with
  | none=>rw [hq] at hinfo;cases hinfo
  | some i =>
   rw [hq] at hinfo
   simp only [Option.map_some,Option.some.injEq,Prod.mk.injEq] at hinfo
   exact ⟨i,rfl,hinfo.1,hinfo.2.1,hinfo.2.2⟩
 have HI:Hid _:=hi
 have HL:Hid (Lis w w' V xs∧xs.length≤40):=⟨L,hn⟩
 have ta:∀ u,(Instr.typeAssert (.iface 3 (.int .i64 x)) 20 3 false).run Tryd.prog u=.ok (.int .i64 x) u:=fun _=>by kernel_rfl
 have k1:∀ o,(w'.alloc o).cell? ⟨fp,0,none⟩=some V:=fun o=>below_cell (below_al w' o) (World.block_lt_of_cell? _ _ hc) hc
 have ne:w'.heap.size≠fp:=World.new_ne w' ⟨fp,0,none⟩ hc
 clear L hn hi
 go_enter Tryd.func118,Tryd.ntmps118
 go_region_law (refine step_lis (w:=w) (V:=V) (xs:=xs) (by exact HL.out.1.later (by first|exact below_da w' _|exact below_ad w' _)) HL.out.2 x rfl (.tmp 7) (.tmp 10) rfl (by rfl) w'.heap.size (by exact new_here w' _) (by rfl) ?_;intro g cap W' L' g2 at2;have HL':Hid (Lis w W' (.slice (some ⟨g,0,none⟩) (xs.length+1) cap) (xs ++ [x])):=L';have HZ:Hid (V.ownBlock=some g∨w'.heap.size≤g):=at2.imp id (fun h=>by rw [h];simp);have z1:=(push_hdr hc hz hV (by first|exact below_da w' _|exact below_ad w' _|exact below_al w' _) g2).1;have z2:=(push_hdr hc hz hV (by first|exact below_da w' _|exact below_ad w' _|exact below_al w' _) g2).2;clear at2 g2;clear L')
 all_goals (go_end0;exact ⟨⟨_,rfl⟩,push_end HL'.out hfp z1 z2 (fun e=>by subst e;rcases HZ.out with h|h;exact hV h;have:=World.block_lt_of_cell? _ _ hc;exact absurd this (Nat.not_lt.2 h))⟩)
end Go.Proofs.YtcgabodkegcpgaaDoor
