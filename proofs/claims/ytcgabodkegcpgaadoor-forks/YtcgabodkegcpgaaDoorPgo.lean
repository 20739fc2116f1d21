/- pagesOf and filesOf, alone. -/
import Derived.Test.YtcgabodkegcpgaaDoorSao
import Derived.Deep.AppendLies
import Derived.Test.YtcgabodkegcpgaaDoorOpn
import Derived.Deep.RegionLaw
set_option linter.unusedVariables false
set_option linter.unusedSimpArgs false
set_option maxHeartbeats 20000000
set_option maxRecDepth 100000
namespace Go.Proofs.YtcgabodkegcpgaaDoor
open Go.RowKit
attribute [local go_sem ↓] Go.wp_at_zero Go.wp_at_succ
theorem a6T:(Tryd.prog.info? 3).map (λi=>(i.zero,i.size,i.bytes))=some (some (.int .i64 0),1,8):=by kernel_rfl
theorem b4V (wr:World)(v:Value)(j:Nat)(u:Value)(hu:[v][j]?=some u):(wr.alloc (.cells #[v] 3)).cell? ((⟨wr.heap.size,0,none⟩:Addr).add j)=some u:=by
 have hb:(wr.alloc (.cells #[v] 3)).heap[wr.heap.size]?=some (.cells #[v] 3):=by show (wr.heap.push _)[wr.heap.size]?=_;simp
 rw [Addr.add_mid,Nat.zero_add];simp only [World.cell?,hb];simpa using hu
theorem b0D (v:Int):∀ u∈[Value.int .i64 v],u.oneCell'=true:=by simp [Value.oneCell']
def J2 (f:Nat->Int)(k:Nat):List Int:=((List.range k).filter λj=>f j != -1).map Int.ofNat
theorem B4 (f:Nat->Int)(k:Nat):J2 f (k+1)=J2 f k ++ (if f k != -1 then [(k:Int)] else []):=by
 unfold J2;rw [List.range_succ,List.filter_append,List.map_append]
 congr 1
 by_cases h:f k=-1<;>simp [h]
theorem I8 (f:Nat->Int)(k:Nat):(J2 f k).length<=k:=by
 unfold J2;rw [List.length_map];exact Nat.le_trans (List.length_filter_le _ _) (by simp)
def ints (xs:List Int):List Value:=xs.map λx=>.int .i64 x
structure Lis (w w':World) (V:Value) (xs:List Int):Prop where
 bel:Below w.heap.size w w'
 own:w'.ownsRow w.heap.size 3 1 V xs.length (ints xs)
theorem Lis.later {w wr W:World}{V:Value}{xs:List Int}(h:Lis w wr V xs)(b:Below wr.heap.size wr W):Lis w W V xs:=by
 refine ⟨⟨b.os.trans h.bel.os,b.tape.trans h.bel.tape,b.output.trans h.bel.output,Nat.le_trans h.bel.size b.size,λk hk=>(b.block k (Nat.lt_of_lt_of_le hk h.bel.size)).trans (h.bel.block k hk)⟩,h.own.1,?_⟩;rcases h.own.2 with h|⟨g,cap,cur,e,hg,hgg,rest⟩
 ·exact .inl h
 ·exact .inr ⟨g,cap,cur,e,hg,by rw [b.block g (Array.getElem?_eq_some_iff.1 hgg).1];exact hgg,rest⟩
theorem a1d {w W:World}{V:Value}{xs:List Int}(L:Lis w W V xs)(hn:xs.length<=40)(val:Int){ops:Array Oper}{rest:List Oper}{o:Oper}{a:Go.Act}{Q:Exit->Go.Act->World->Prop}(hgd:o.guard=none)(s x:Operand)
  (ho:o.op=.call { callee:=.builtin .append,args:=#[s,x],argTypes:=#[22,22] })(hs:a.eval s=V)(H:Nat)(hH:W.heap.size=H)(hx:a.eval x=.slice (some ⟨H,0,none⟩) 1 1)
  (h:∀ V' W',Lis w W' V' (xs ++ [val])->wpList Tryd.prog ops Q rest (a.put o.dst V') W') :
  wpList Tryd.prog ops Q (o::rest) a (W.alloc (.cells #[.int .i64 val] 3)):=by
 subst hH;have hinfo:=a6T
 cases hq:Tryd.prog.info? 3 with
 | none=>rw [hq] at hinfo;cases hinfo
 | some i =>
  rw [hq] at hinfo;simp only [Option.map_some,Option.some.injEq,Prod.mk.injEq] at hinfo;have b0:Below W.heap.size W (W.alloc (.cells #[.int .i64 val] 3)):=(Below.refl _ _).alloc (Nat.le_refl _) _;have L0:=L.later b0;refine wpList_append_lies _ hgd s x 22 ho w.heap.size 3 i _ 1 8 Tryd.underlying22 hq hinfo.1 hinfo.2.1 hinfo.2.2 (by rfl) (by omega) V xs.length (ints xs) hs L0.own ⟨W.heap.size,0,none⟩ 1 1 [.int .i64 val] hx rfl (b4V _ _) (b0D _) (by omega) (by simp [maxLen];omega) (by omega) (by have:=L.bel.size;simp;omega) (W.heap.size+1) (by simp) ?_;intro g cap w2 o2 g2 at2 lt2;refine h _ w2 ⟨⟨g2.os.trans L0.bel.os,g2.tape.trans L0.bel.tape,g2.output.trans L0.bel.output,Nat.le_trans L0.bel.size g2.size,λq hq=>?_⟩,by simpa [ints] using o2⟩;rw [g2.block q (by have:=L0.bel.size;omega) (λh=>by have:=(L0.own.lt q h.symm).1;omega)];exact L0.bel.block q hq
theorem a8Z (w w':World)(h:Below w.heap.size w w'):Lis w w' (.slice none 0 0) []:=⟨h,World.ownsRow_nil _ _ _ _⟩
theorem b4W (w:World)(x0 x1 x2 x3 x4 x5 x6 x7 x8 x9 y0 y1:Value)(f:Nat->Int)(b0 b1 b2 b3:Bool) :
  Calls Tryd.prog 88 #[.agg #[x0,x1,x2,.int .i64 (f 0),.bool b0,.int .i64 (f 1),.bool b1,.int .i64 (f 2),.bool b2,.int .i64 (f 3),.bool b3,x3,x4,x5,x6,x7,x8,x9,y0,y1]] w λe w'=>∃ V,e=.returned V/\Lis w w' V (J2 f 4):=by
 have i0:∀ w,(Instr.index 50 (.agg #[.int .i64 (f 0),.bool b0,.int .i64 (f 1),.bool b1,.int .i64 (f 2),.bool b2,.int .i64 (f 3),.bool b3]) (.int .i64 0)).run Tryd.prog w=.ok (.agg #[.int .i64 (f 0),.bool b0]) w:=λ_=>by kernel_rfl
 have i1:∀ w,(Instr.index 50 (.agg #[.int .i64 (f 0),.bool b0,.int .i64 (f 1),.bool b1,.int .i64 (f 2),.bool b2,.int .i64 (f 3),.bool b3]) (.int .i64 1)).run Tryd.prog w=.ok (.agg #[.int .i64 (f 1),.bool b1]) w:=λ_=>by kernel_rfl
 have i2:∀ w,(Instr.index 50 (.agg #[.int .i64 (f 0),.bool b0,.int .i64 (f 1),.bool b1,.int .i64 (f 2),.bool b2,.int .i64 (f 3),.bool b3]) (.int .i64 2)).run Tryd.prog w=.ok (.agg #[.int .i64 (f 2),.bool b2]) w:=λ_=>by kernel_rfl
 have i3:∀ w,(Instr.index 50 (.agg #[.int .i64 (f 0),.bool b0,.int .i64 (f 1),.bool b1,.int .i64 (f 2),.bool b2,.int .i64 (f 3),.bool b3]) (.int .i64 3)).run Tryd.prog w=.ok (.agg #[.int .i64 (f 3),.bool b3]) w:=λ_=>by kernel_rfl
 go_enter Tryd.func88,Tryd.ntmps88
 go_wp2_with fail
 go_loopw [3,8] (λs i w'=>∃ k:Nat,k<=4/\i=.int .i64 k/\Lis w w' s (J2 f k)) (λ_ i _=>4 - (intOf i).toNat)
 case atStart=>exact ⟨0,by omega,rfl,a8Z _ _ ((Below.refl _ _).alloc (Nat.le_refl _) _)⟩
 case round =>
  obtain ⟨k,hk,rfl,hL⟩:=hrel;have HL:Hid (Lis w wr u3 (J2 f k)):=hL;clear hL
  by_cases h4:k=4
  ·subst h4
   go_wp2
   go_ret
   exact ⟨_,rfl,HL.out⟩
  have hq:k=0\/k=1\/k=2\/k=3:=by omega
  clear h4 hk;rcases hq with rfl|rfl|rfl|rfl
  ·cases hf:(f 0 != -1)
   ·go_wp2
    exact ⟨⟨1,by omega,by go_num,by have:=B4 f 0;rw [hf,if_neg (by decide),List.append_nil] at this;rw [this];exact HL.out.later ((Below.refl _ _).alloc (Nat.le_refl _) _)⟩,by simp [intOf]⟩
   ·go_wp2_with (refine a1d (w:=w) (W:=wr.alloc (.cells #[.int .i64 (f 0),.bool b0] 49)) (xs:=J2 f 0) (HL.out.later ((Below.refl _ _).alloc (Nat.le_refl _) _)) (by have:=I8 f 0;omega) 0 rfl _ _ rfl rfl (wr.heap.size+1) (by simp) rfl ?_;intro V' W' L';have HL':Hid (Lis w W' V' (J2 f 0 ++ [0])):=L';clear L')
    exact ⟨⟨1,by omega,by go_num,by have:=B4 f 0;rw [hf,if_pos rfl] at this;rw [this];exact HL'.out⟩,by simp [intOf]⟩
  ·cases hf:(f 1 != -1)
   ·go_wp2
    exact ⟨⟨2,by omega,by go_num,by have:=B4 f 1;rw [hf,if_neg (by decide),List.append_nil] at this;rw [this];exact HL.out.later ((Below.refl _ _).alloc (Nat.le_refl _) _)⟩,by simp [intOf]⟩
   ·go_wp2_with (refine a1d (w:=w) (W:=wr.alloc (.cells #[.int .i64 (f 1),.bool b1] 49)) (xs:=J2 f 1) (HL.out.later ((Below.refl _ _).alloc (Nat.le_refl _) _)) (by have:=I8 f 1;omega) 1 rfl _ _ rfl rfl (wr.heap.size+1) (by simp) rfl ?_;intro V' W' L';have HL':Hid (Lis w W' V' (J2 f 1 ++ [1])):=L';clear L')
    exact ⟨⟨2,by omega,by go_num,by have:=B4 f 1;rw [hf,if_pos rfl] at this;rw [this];exact HL'.out⟩,by simp [intOf]⟩
  ·cases hf:(f 2 != -1)
   ·go_wp2
    exact ⟨⟨3,by omega,by go_num,by have:=B4 f 2;rw [hf,if_neg (by decide),List.append_nil] at this;rw [this];exact HL.out.later ((Below.refl _ _).alloc (Nat.le_refl _) _)⟩,by simp [intOf]⟩
   ·go_wp2_with (refine a1d (w:=w) (W:=wr.alloc (.cells #[.int .i64 (f 2),.bool b2] 49)) (xs:=J2 f 2) (HL.out.later ((Below.refl _ _).alloc (Nat.le_refl _) _)) (by have:=I8 f 2;omega) 2 rfl _ _ rfl rfl (wr.heap.size+1) (by simp) rfl ?_;intro V' W' L';have HL':Hid (Lis w W' V' (J2 f 2 ++ [2])):=L';clear L')
    exact ⟨⟨3,by omega,by go_num,by have:=B4 f 2;rw [hf,if_pos rfl] at this;rw [this];exact HL'.out⟩,by simp [intOf]⟩
  ·cases hf:(f 3 != -1)
   ·go_wp2
    exact ⟨⟨4,by omega,by go_num,by have:=B4 f 3;rw [hf,if_neg (by decide),List.append_nil] at this;rw [this];exact HL.out.later ((Below.refl _ _).alloc (Nat.le_refl _) _)⟩,by simp [intOf]⟩
   ·go_wp2_with (refine a1d (w:=w) (W:=wr.alloc (.cells #[.int .i64 (f 3),.bool b3] 49)) (xs:=J2 f 3) (HL.out.later ((Below.refl _ _).alloc (Nat.le_refl _) _)) (by have:=I8 f 3;omega) 3 rfl _ _ rfl rfl (wr.heap.size+1) (by simp) rfl ?_;intro V' W' L';have HL':Hid (Lis w W' V' (J2 f 3 ++ [3])):=L';clear L')
    exact ⟨⟨4,by omega,by go_num,by have:=B4 f 3;rw [hf,if_pos rfl] at this;rw [this];exact HL'.out⟩,by simp [intOf]⟩
theorem b4X (w:World)(x0 x1 x2 x3 x4 x5 x6 x7 x8 x9 y0 y1:Value)(f:Nat->Int)(b0 b1 b2 b3:Bool) :
  Calls Tryd.prog 90 #[.agg #[x0,x1,x2,x3,x4,x5,x6,x7,x8,x9,y0,.int .i64 (f 0),.bool b0,.int .i64 (f 1),.bool b1,.int .i64 (f 2),.bool b2,.int .i64 (f 3),.bool b3,y1]] w λe w'=>∃ V,e=.returned V/\Lis w w' V (J2 f 4):=by
 have i0:∀ w,(Instr.index 53 (.agg #[.int .i64 (f 0),.bool b0,.int .i64 (f 1),.bool b1,.int .i64 (f 2),.bool b2,.int .i64 (f 3),.bool b3]) (.int .i64 0)).run Tryd.prog w=.ok (.agg #[.int .i64 (f 0),.bool b0]) w:=λ_=>by kernel_rfl
 have i1:∀ w,(Instr.index 53 (.agg #[.int .i64 (f 0),.bool b0,.int .i64 (f 1),.bool b1,.int .i64 (f 2),.bool b2,.int .i64 (f 3),.bool b3]) (.int .i64 1)).run Tryd.prog w=.ok (.agg #[.int .i64 (f 1),.bool b1]) w:=λ_=>by kernel_rfl
 have i2:∀ w,(Instr.index 53 (.agg #[.int .i64 (f 0),.bool b0,.int .i64 (f 1),.bool b1,.int .i64 (f 2),.bool b2,.int .i64 (f 3),.bool b3]) (.int .i64 2)).run Tryd.prog w=.ok (.agg #[.int .i64 (f 2),.bool b2]) w:=λ_=>by kernel_rfl
 have i3:∀ w,(Instr.index 53 (.agg #[.int .i64 (f 0),.bool b0,.int .i64 (f 1),.bool b1,.int .i64 (f 2),.bool b2,.int .i64 (f 3),.bool b3]) (.int .i64 3)).run Tryd.prog w=.ok (.agg #[.int .i64 (f 3),.bool b3]) w:=λ_=>by kernel_rfl
 go_enter Tryd.func90,Tryd.ntmps90
 go_wp2_with fail
 go_loopw [3,8] (λs i w'=>∃ k:Nat,k<=4/\i=.int .i64 k/\Lis w w' s (J2 f k)) (λ_ i _=>4 - (intOf i).toNat)
 case atStart=>exact ⟨0,by omega,rfl,a8Z _ _ ((Below.refl _ _).alloc (Nat.le_refl _) _)⟩
 case round =>
  obtain ⟨k,hk,rfl,hL⟩:=hrel;have HL:Hid (Lis w wr u3 (J2 f k)):=hL;clear hL
  by_cases h4:k=4
  ·subst h4
   go_wp2
   go_ret
   exact ⟨_,rfl,HL.out⟩
  have hq:k=0\/k=1\/k=2\/k=3:=by omega
  clear h4 hk;rcases hq with rfl|rfl|rfl|rfl
  ·cases hf:(f 0 != -1)
   ·go_wp2
    exact ⟨⟨1,by omega,by go_num,by have:=B4 f 0;rw [hf,if_neg (by decide),List.append_nil] at this;rw [this];exact HL.out.later ((Below.refl _ _).alloc (Nat.le_refl _) _)⟩,by simp [intOf]⟩
   ·go_wp2_with (refine a1d (w:=w) (W:=wr.alloc (.cells #[.int .i64 (f 0),.bool b0] 52)) (xs:=J2 f 0) (HL.out.later ((Below.refl _ _).alloc (Nat.le_refl _) _)) (by have:=I8 f 0;omega) 0 rfl _ _ rfl rfl (wr.heap.size+1) (by simp) rfl ?_;intro V' W' L';have HL':Hid (Lis w W' V' (J2 f 0 ++ [0])):=L';clear L')
    exact ⟨⟨1,by omega,by go_num,by have:=B4 f 0;rw [hf,if_pos rfl] at this;rw [this];exact HL'.out⟩,by simp [intOf]⟩
  ·cases hf:(f 1 != -1)
   ·go_wp2
    exact ⟨⟨2,by omega,by go_num,by have:=B4 f 1;rw [hf,if_neg (by decide),List.append_nil] at this;rw [this];exact HL.out.later ((Below.refl _ _).alloc (Nat.le_refl _) _)⟩,by simp [intOf]⟩
   ·go_wp2_with (refine a1d (w:=w) (W:=wr.alloc (.cells #[.int .i64 (f 1),.bool b1] 52)) (xs:=J2 f 1) (HL.out.later ((Below.refl _ _).alloc (Nat.le_refl _) _)) (by have:=I8 f 1;omega) 1 rfl _ _ rfl rfl (wr.heap.size+1) (by simp) rfl ?_;intro V' W' L';have HL':Hid (Lis w W' V' (J2 f 1 ++ [1])):=L';clear L')
    exact ⟨⟨2,by omega,by go_num,by have:=B4 f 1;rw [hf,if_pos rfl] at this;rw [this];exact HL'.out⟩,by simp [intOf]⟩
  ·cases hf:(f 2 != -1)
   ·go_wp2
    exact ⟨⟨3,by omega,by go_num,by have:=B4 f 2;rw [hf,if_neg (by decide),List.append_nil] at this;rw [this];exact HL.out.later ((Below.refl _ _).alloc (Nat.le_refl _) _)⟩,by simp [intOf]⟩
   ·go_wp2_with (refine a1d (w:=w) (W:=wr.alloc (.cells #[.int .i64 (f 2),.bool b2] 52)) (xs:=J2 f 2) (HL.out.later ((Below.refl _ _).alloc (Nat.le_refl _) _)) (by have:=I8 f 2;omega) 2 rfl _ _ rfl rfl (wr.heap.size+1) (by simp) rfl ?_;intro V' W' L';have HL':Hid (Lis w W' V' (J2 f 2 ++ [2])):=L';clear L')
    exact ⟨⟨3,by omega,by go_num,by have:=B4 f 2;rw [hf,if_pos rfl] at this;rw [this];exact HL'.out⟩,by simp [intOf]⟩
  ·cases hf:(f 3 != -1)
   ·go_wp2
    exact ⟨⟨4,by omega,by go_num,by have:=B4 f 3;rw [hf,if_neg (by decide),List.append_nil] at this;rw [this];exact HL.out.later ((Below.refl _ _).alloc (Nat.le_refl _) _)⟩,by simp [intOf]⟩
   ·go_wp2_with (refine a1d (w:=w) (W:=wr.alloc (.cells #[.int .i64 (f 3),.bool b3] 52)) (xs:=J2 f 3) (HL.out.later ((Below.refl _ _).alloc (Nat.le_refl _) _)) (by have:=I8 f 3;omega) 3 rfl _ _ rfl rfl (wr.heap.size+1) (by simp) rfl ?_;intro V' W' L';have HL':Hid (Lis w W' V' (J2 f 3 ++ [3])):=L';clear L')
    exact ⟨⟨4,by omega,by go_num,by have:=B4 f 3;rw [hf,if_pos rfl] at this;rw [this];exact HL'.out⟩,by simp [intOf]⟩
attribute [local go_sem ↓] Go.wp_at_zero Go.wp_at_succ
theorem b7D {w U:World}{V:Value}{xs:List Int}(L:Lis w U V xs)(hn:xs.length<=40)(val:Int){ops:Array Oper}{o:Oper}{a:Go.Act}{K:Go.Act->World->Prop}{Q:Exit->Go.Act->World->Prop}{E:Prop}(hgd:o.guard=none)(s x:Operand)
  (ho:o.op=.call { callee:=.builtin .append,args:=#[s,x],argTypes:=#[109,109] })(hs:a.eval s=V)(H:Nat)(hH:U.heap[H]?=some (.cells #[.int .i64 val] 3))(hx:a.eval x=.slice (some ⟨H,0,none⟩) 1 1)
  (h:∀ g cap W',Lis w W' (.slice (some ⟨g,0,none⟩) (xs.length+1) cap) (xs ++ [val])->U.grownBy W' V.ownBlock->(V.ownBlock=some g\/g=U.heap.size)->K (a.put o.dst (.slice (some ⟨g,0,none⟩) (xs.length+1) cap)) W') :
  if Region.wanted o (yielded ops a.tmps)=true then Oper.wp Tryd.prog o a U K Q else E:=by
 have hinfo:=a6T
 cases hq:Tryd.prog.info? 3 with
 | none=>rw [hq] at hinfo;cases hinfo
 | some i =>
  rw [hq] at hinfo;simp only [Option.map_some,Option.some.injEq,Prod.mk.injEq] at hinfo;refine step_append_lies _ hgd s x 109 ho w.heap.size 3 i _ 1 8 (by kernel_rfl) hq hinfo.1 hinfo.2.1 hinfo.2.2 (by rfl) (by omega) V xs.length (ints xs) hs L.own ⟨H,0,none⟩ 1 1 [.int .i64 val] hx rfl (World.news_of_block hH) (b0D _) (by omega) (by simp [maxLen];omega) (by omega) L.bel.size U.heap.size rfl ?_;intro g cap w2 o2 g2 at2 lt2;refine h g cap w2 ⟨⟨g2.os.trans L.bel.os,g2.tape.trans L.bel.tape,g2.output.trans L.bel.output,Nat.le_trans L.bel.size g2.size,λq hq=>?_⟩,by simpa [ints] using o2⟩ g2 at2;rw [g2.block q (by have:=L.bel.size;omega) (λh=>by have:=(L.own.lt q h.symm).1;omega)];exact L.bel.block q hq
theorem b0E (u:World)(o:Obj):(u.alloc o).heap[u.heap.size]?=some o:=by show (u.heap.push _)[u.heap.size]?=_;simp
theorem a0T (u:World)(o:Obj):Below u.heap.size u (u.alloc o):=(Below.refl u.heap.size u).alloc (Nat.le_refl _) o
theorem a6U (u:World)(o:Obj):Below u.heap.size u (u.drew.alloc o):=⟨rfl,rfl,rfl,(a0T u o).size,(a0T u o).block⟩
theorem a6V (u:World)(o:Obj):Below u.heap.size u (u.alloc o).drew:=⟨rfl,rfl,rfl,(a0T u o).size,(a0T u o).block⟩
theorem b0F {w' U W':World}{fp:Nat}{V:Value}(hc:w'.cell? ⟨fp,0,none⟩=some V)(hz:w'.frozen? ⟨fp,0,none⟩=false)(hV:V.ownBlock≠some fp)(b:Below w'.heap.size w' U)(g2:U.grownBy W' V.ownBlock):W'.cell? ⟨fp,0,none⟩=some V/\W'.frozen? ⟨fp,0,none⟩=false:=by
 have hlt:fp<w'.heap.size:=World.block_lt_of_cell? _ _ hc;have e:W'.heap[fp]?=w'.heap[fp]?:=(g2.block fp (Nat.lt_of_lt_of_le hlt b.size) (λe=>hV e.symm)).trans (b.block fp hlt);simp only [World.cell?,World.frozen?,e] at *;exact ⟨hc,hz⟩
theorem b7E {w W':World}{fp g k cap:Nat}{V:Value}{ys:List Int}(L:Lis w W' (.slice (some ⟨g,0,none⟩) k cap) ys)(hfp:w.heap.size<=fp)(z1:W'.cell? ⟨fp,0,none⟩=some V)(z2:W'.frozen? ⟨fp,0,none⟩=false)(hne:g≠fp) :
  ∃ V',Lis w (W'.setCell ⟨fp,0,none⟩ (.slice (some ⟨g,0,none⟩) k cap)) V' ys/\(W'.setCell ⟨fp,0,none⟩ (.slice (some ⟨g,0,none⟩) k cap)).cell? ⟨fp,0,none⟩=some V'/\(W'.setCell ⟨fp,0,none⟩ (.slice (some ⟨g,0,none⟩) k cap)).frozen? ⟨fp,0,none⟩=false/\V'.ownBlock≠some fp:=by
 refine ⟨_,⟨L.bel.setCell hfp _,L.own.1,?_⟩,World.cell?_setCell_same _ _ _ z1,?_,λe=>hne (Option.some.inj e)⟩
 ·rcases L.own.2 with h|⟨g',c',cur,e,h1,h2,rest⟩
  ·exact .inl h
  ·obtain ⟨rfl⟩:g=g':=by injection e with e1;injection e1 with e2;injection e2
   exact .inr ⟨g,c',cur,e,h1,by rw [Br.heap_setCell,if_neg (Ne.symm hne)];exact h2,rest⟩
 ·rw [World.frozen?_setCell];exact z2
theorem b4Y {w w':World}{fp:Nat}{V:Value}{xs:List Int}(x:Int)(L:Lis w w' V xs)(hn:xs.length<=40)(hfp:w.heap.size<=fp)(hc:w'.cell? ⟨fp,0,none⟩=some V)(hz:w'.frozen? ⟨fp,0,none⟩=false)(hV:V.ownBlock≠some fp) :
  Calls Tryd.prog 118 #[.pointer (some ⟨fp,0,none⟩),.iface 3 (.int .i64 x)] w' λe w2=>(∃ v,e=.returned v)/\∃ V',Lis w w2 V' (xs ++ [x])/\w2.cell? ⟨fp,0,none⟩=some V'/\w2.frozen? ⟨fp,0,none⟩=false/\V'.ownBlock≠some fp:=by
 obtain ⟨iN,hi⟩:∃ i,Tryd.prog.info? 3=some i/\i.zero=some (.int .i64 0)/\i.size=1/\i.bytes=8:=by
  have hinfo:=a6T
  cases hq:Tryd.prog.info? 3 with
  | none=>rw [hq] at hinfo;cases hinfo
  | some i =>
   rw [hq] at hinfo;simp only [Option.map_some,Option.some.injEq,Prod.mk.injEq] at hinfo;exact ⟨i,rfl,hinfo.1,hinfo.2.1,hinfo.2.2⟩
 have HI:Hid _:=hi;have HL:Hid (Lis w w' V xs/\xs.length<=40):=⟨L,hn⟩;have ta:∀ u,(Instr.typeAssert (.iface 3 (.int .i64 x)) 20 3 false).run Tryd.prog u=.ok (.int .i64 x) u:=λ_=>by kernel_rfl
 have k1:∀ o,(w'.alloc o).cell? ⟨fp,0,none⟩=some V:=λo=>T6 (a0T w' o) (World.block_lt_of_cell? _ _ hc) hc;have ne:w'.heap.size≠fp:=World.new_ne w' ⟨fp,0,none⟩ hc;clear L hn hi
 go_enter Tryd.func118,Tryd.ntmps118
 go_region_law (refine b7D (w:=w) (V:=V) (xs:=xs) (by exact HL.out.1.later (by first|exact a6U w' _|exact a6V w' _)) HL.out.2 x rfl (.tmp 7) (.tmp 10) rfl (by rfl) w'.heap.size (by exact b0E w' _) (by rfl) ?_;intro g cap W' L' g2 at2;have HL':Hid (Lis w W' (.slice (some ⟨g,0,none⟩) (xs.length+1) cap) (xs ++ [x])):=L';have HZ:Hid (V.ownBlock=some g\/w'.heap.size<=g):=at2.imp id (λh=>by rw [h];simp);have z1:=(b0F hc hz hV (by first|exact a6U w' _|exact a6V w' _|exact a0T w' _) g2).1;have z2:=(b0F hc hz hV (by first|exact a6U w' _|exact a6V w' _|exact a0T w' _) g2).2;clear at2 g2;clear L')
 all_goals (go_end0;exact ⟨⟨_,rfl⟩,b7E HL'.out hfp z1 z2 (λe=>by subst e;rcases HZ.out with h|h;exact hV h;have:=World.block_lt_of_cell? _ _ hc;exact absurd this (Nat.not_lt.2 h))⟩)
attribute [local go_sem ↓] Go.wp_at_zero Go.wp_at_succ
theorem b7F {w w2:World}{fp:Nat}{V:Value}{ys:List Int}(L:Lis w w2 V ys)(hc:w2.cell? ⟨fp,0,none⟩=some V)(hne:ys≠[]):∃ g cap,V=.slice (some ⟨g,0,none⟩) ys.length cap/\Dn w2 w2 fp 0 g cap 3 ys ys.length:=by
 obtain ⟨o1,⟨_,h0⟩|⟨g,cap,cur,rfl,hg,hcur,h1,h2,h3,h4⟩⟩:=L.own
 ·exact absurd (List.length_eq_zero_iff.1 h0) hne
 ·refine ⟨g,cap,rfl,⟨rfl,λ_ _=>rfl,cur,hcur,λi x hi=>?_⟩,rfl,hc⟩;have hl:i<ys.length:=(List.getElem?_eq_some_iff.1 hi).1;have e1:(ints ys)[i]?=some (.int .i64 x):=by simp [ints,hi]
  rw [← h4,List.getElem?_take,if_pos (by omega)] at e1;simpa using e1
theorem b0G {w w2:World}{V:Value}{ys:List Int}(L:Lis w w2 V ys)(q:Nat):Lis w (w2.drewN q) V ys:=⟨⟨L.bel.os,L.bel.tape,L.bel.output,L.bel.size,L.bel.block⟩,L.own⟩
theorem b9x {xs:List Int}{x:Int}{j:Nat}(hl:xs.length=j+1)(hx:∀ y∈xs,y<=x):(xs ++ [x]).getD (j / 2) 0<=(xs ++ [x]).getD (j+1) 0:=by
 rw [List.getD_eq_getElem?_getD,List.getD_eq_getElem?_getD,List.getElem?_append_left (by omega),List.getElem?_append_right (by omega),hl,Nat.sub_self,List.getElem?_eq_getElem (show j / 2<xs.length by omega)];exact hx _ (List.getElem_mem _)
theorem b4Z {w w':World}{fp:Nat}{V:Value}{xs:List Int}(x:Int)(L:Lis w w' V xs)(hn:xs.length<40)(hfp:w.heap.size<=fp)(hc:w'.cell? ⟨fp,0,none⟩=some V)(hz:w'.frozen? ⟨fp,0,none⟩=false)(hV:V.ownBlock≠some fp)(hx:∀ y∈xs,y<=x) :
  Calls Tryd.prog 85 #[.iface 129 (.pointer (some ⟨fp,0,none⟩)),.iface 3 (.int .i64 x)] w' λe w2=>(∃ v,e=.returned v)/\∃ V',Lis w w2 V' (xs ++ [x])/\w2.cell? ⟨fp,0,none⟩=some V'/\w2.frozen? ⟨fp,0,none⟩=false/\V'.ownBlock≠some fp:=by
 have key:=b4Y x L (Nat.le_of_lt hn) hfp hc hz hV;have mpu:=c0L;have hll:xs.length<1000:=by omega
 have HX:Hid (xs.length<40/\∀ y∈xs,y<=x):=⟨hn,hx⟩;clear L hn hc hz hV hx;have hl:(xs ++ [x]).length=xs.length+1:=by simp
 cases hm:xs.length with
 | zero =>
  rw [hm] at hl
  go_enter Tryd.func85,Tryd.ntmps85
  go_wp2_with (first|(go_at_call 118;refine key.mono ?_;rintro e w2 ⟨⟨v2,rfl⟩,V',L2,c2,f2,o2⟩;obtain ⟨g,cap,rfl,D2⟩:=b7F L2 c2 (by simp);rw [hl] at D2;have ml:=b6U w2 fp 0 _ _ _ D2.hdr;have H2:Hid (Lis w w2 (.slice (some ⟨g,0,none⟩) (xs ++ [x]).length cap) (xs ++ [x])/\w2.cell? ⟨fp,0,none⟩=some (.slice (some ⟨g,0,none⟩) (xs ++ [x]).length cap)/\w2.frozen? ⟨fp,0,none⟩=false/\(Value.slice (some ⟨g,0,none⟩) (xs ++ [x]).length cap).ownBlock≠some fp):=⟨L2,c2,f2,o2⟩;have HD:Hid (Dn w2 w2 fp 0 g cap 3 (xs ++ [x]) (0+1)):=D2;clear L2 c2 f2 o2 D2)|(go_at_call 114;refine (a6C _ _ _ _).mono ?_;rintro e w3 ⟨rfl,rfl⟩)|(go_at_call 96;refine (b9q HD.out).mono ?_;rintro e w4 ⟨⟨v4,rfl⟩,q,rfl⟩))
  go_end0
  exact ⟨⟨_,rfl⟩,_,b0G H2.out.1 q,H2.out.2⟩
 | succ j =>
  rw [hm] at hl;have HJ:Hid (xs.length=j+1/\j+1<40):=⟨hm,by have:=HX.out.1;omega⟩;have hjj:j<1000:=by omega
  go_enter Tryd.func85,Tryd.ntmps85
  go_wp2_with (first|(go_at_call 118;refine key.mono ?_;rintro e w2 ⟨⟨v2,rfl⟩,V',L2,c2,f2,o2⟩;obtain ⟨g,cap,rfl,D2⟩:=b7F L2 c2 (by simp);rw [hl] at D2;have ml:=b6U w2 fp 0 _ _ _ D2.hdr;have H2:Hid (Lis w w2 (.slice (some ⟨g,0,none⟩) (xs ++ [x]).length cap) (xs ++ [x])/\w2.cell? ⟨fp,0,none⟩=some (.slice (some ⟨g,0,none⟩) (xs ++ [x]).length cap)/\w2.frozen? ⟨fp,0,none⟩=false/\(Value.slice (some ⟨g,0,none⟩) (xs ++ [x]).length cap).ownBlock≠some fp):=⟨L2,c2,f2,o2⟩;have HD:Hid (Dn w2 w2 fp 0 g cap 3 (xs ++ [x]) (j+1+1)):=D2;clear L2 c2 f2 o2 D2)|(go_at_call 114;refine (a6C _ _ _ _).mono ?_;rintro e w3 ⟨rfl,rfl⟩)|(go_at_call 96;refine (b6W HD.out j (by omega) (by have:=HJ.out;omega) (b9x HJ.out.1 HX.out.2)).mono ?_;rintro e w4 ⟨⟨v4,rfl⟩,q,rfl⟩))
  go_end0
  exact ⟨⟨_,rfl⟩,_,b0G H2.out.1 q,H2.out.2⟩
attribute [local go_sem ↓] Go.wp_at_zero Go.wp_at_succ
def D5 (K:Ker)(k:Nat):List Int:=((List.range k).filter λj=>K.F j 0 == 0).map Int.ofNat
theorem a6W (K:Ker)(k:Nat):D5 K (k+1)=D5 K k ++ (if K.F k 0 == 0 then [(k:Int)] else []):=by
 unfold D5;rw [List.range_succ,List.filter_append,List.map_append]
 congr 1
 by_cases h:K.F k 0=0<;>simp [h]
theorem a8o (K:Ker)(k:Nat):(D5 K k).length<=k:=by
 unfold D5;rw [List.length_map];exact Nat.le_trans (List.length_filter_le _ _) (by simp)
theorem b7G (K:Ker)(k:Nat):∀ y∈D5 K k,y<=(k:Int):=by
 intro y hy;unfold D5 at hy;obtain ⟨j,hj,rfl⟩:=List.mem_map.1 hy;have:=List.mem_range.1 (List.mem_filter.1 hj).1;show (j:Int)<=k;omega
theorem b7H (K:Ker)(o m:Nat):(cut (C8 K) o m).toArray.all (·.oneCell')=true :=
 all_oneCell_toArray λv hv=>by unfold cut at hv;obtain ⟨j,_,rfl⟩:=List.mem_map.1 hv;rfl
structure Hdr (w':World) (fp:Nat) (V:Value):Prop where
 c:w'.cell? ⟨fp,0,none⟩=some V
 z:w'.frozen? ⟨fp,0,none⟩=false
 o:V.ownBlock≠some fp
theorem Hdr.later {w' W:World}{fp:Nat}{V:Value}(h:Hdr w' fp V)(b:Below w'.heap.size w' W):Hdr W fp V:=by
 have hlt:fp<w'.heap.size:=World.block_lt_of_cell? _ _ h.c;have e:=b.block fp hlt;have c:=h.c;have z:=h.z;refine ⟨?_,?_,h.o⟩
 ·simp only [World.cell?,e] at *;exact c
 ·simp only [World.frozen?,e] at *;exact z
theorem b9y (w:World)(A:Obj)(t:TypeId):Hdr ((w.alloc A).alloc (.cells #[.slice none 0 0] t)) (w.heap.size+1) (.slice none 0 0):=by
 have e:((w.alloc A).alloc (.cells #[.slice none 0 0] t)).heap[w.heap.size+1]?=some (.cells #[.slice none 0 0] t):=by
  have h:=b0E (w.alloc A) (.cells #[.slice none 0 0] t)
  rwa [show (w.alloc A).heap.size=w.heap.size+1 by simp] at h
 refine ⟨?_,?_,λh=>by cases h⟩
 ·simp only [World.cell?,e];rfl
 ·simp only [World.frozen?,e];rfl
theorem c0Q (w:World)(A B:Obj):Below w.heap.size w ((w.alloc A).alloc B):=((Below.refl _ _).alloc (Nat.le_refl _) _).alloc (by simp) _
theorem b7I (w:World)(K:Ker)(gF gS gD:Nat)(hF:K.nF<=32)(hrow:w.rowIs gF 75 (K.nF*6) (C8 K))(hlt:gF<w.heap.size) :
  Calls Tryd.prog 78 #[A4 K gF gS gD] w λe w'=>∃ V,e=.returned V/\Lis w w' V (D5 K K.nF):=by
 unfold A4;have HR:Hid (w.rowIs gF 75 (K.nF*6) (C8 K)/\gF<w.heap.size/\K.nF<=32):=⟨hrow,hlt,hF⟩;clear hrow hlt hF
 go_enter Tryd.func78,Tryd.ntmps78
 go_wp2_with fail
 go_loopw [9] (λi w'=>∃ (k:Nat) (V:Value),k<=K.nF/\i=.int .i64 k/\Lis w w' V (D5 K k)/\Hdr w' (w.heap.size+1) V) (λi _=>K.nF - (intOf i).toNat)
 case atStart=>exact ⟨0,.slice none 0 0,by omega,rfl,a8Z _ _ (c0Q _ _ _),b9y _ _ _⟩
 case round =>
  obtain ⟨k,V,hk,rfl,L,Hd⟩:=hrel;have hc0:=Hd.c;have HL:Hid (Lis w wr V (D5 K k)/\Hdr wr (w.heap.size+1) V):=⟨L,Hd⟩;clear L Hd
  by_cases hlt:k<K.nF
  ·obtain ⟨cs,hcs⟩:∃ cs,cs=cut (C8 K) (k*6) 6:=⟨_,rfl⟩;have ei:Hid ((Tryd.prog.info? 75).map (·.size)=some cs.length):=by unfold Hid;rw [hcs,A5];kernel_rfl
   have ei2:Hid ((Tryd.prog.info? 75).map (·.size)=some cs.toArray.size):=by unfold Hid;rw [List.size_toArray,hcs,A5];kernel_rfl
   have o1:Hid (cs.toArray.all (·.oneCell')=true):=by unfold Hid;rw [hcs];exact b7H K _ _
   have z1:Hid (cs.toArray.size=6):=by unfold Hid;rw [List.size_toArray,hcs,A5]
   have LA:Hid (wr.rangeAt gF (k*6) cs):=by unfold Hid;rw [hcs];exact y7 (HR.out.1.of_block (HL.out.1.bel.block _ HR.out.2.1)) (o:=k*6) (m:=6) (by omega)
   have Hcs:Hid (cs=cut (C8 K) (k*6) 6):=hcs;clear hcs;have b1:(0:Int)<=(k:Int):=by omega
   have hkk:k<1000:=by have:=HR.out.2.2;omega
   have b2:(k:Int)<(K.nF:Int):=by omega
   cases hf:(K.F k 0 == 0)
   ·go_wp2_with (first|(refine wpList_load_mid rfl 75 _ rfl gF (k*6) rfl cs _ LA.out Tryd.underlying75 rfl ei.out ?_)|(refine Q0 rfl 75 _ _ rfl _ 0 cs.toArray rfl rfl (by rw [z1.out];exact a0U _ _ _ _ (by rfl)) ei2.out o1.out ?_;intro W1 f1 f2 f3 f4;have q0:W1.cell? ⟨wr.heap.size,0,none⟩=some (.int .i64 (K.F k 0)):=by { have:=W3 (f:=C8 K) (o:=k*6) (m:=6) (w:=W1) (b:=wr.heap.size) (by rw [← Hcs.out];exact f1) (j:=0) (by omega);rw [this];unfold C8;rw [show (k*6+0) / 6=k by omega,show (k*6+0) % 6=0 by omega] };have HW:Hid (Below wr.heap.size wr W1):=f4 _ _ ((Below.refl _ _).alloc (Nat.le_refl _) _) (Nat.le_refl _);clear f1 f2 f3 f4))
    exact ⟨⟨k+1,V,by omega,by simp,by have:=a6W K k;rw [hf,if_neg (by decide),List.append_nil] at this;rw [this];exact HL.out.1.later HW.out,HL.out.2.later HW.out⟩,by simp [intOf];omega⟩
   ·go_wp2_with (first|(refine wpList_load_mid rfl 75 _ rfl gF (k*6) rfl cs _ LA.out Tryd.underlying75 rfl ei.out ?_)|(refine Q0 rfl 75 _ _ rfl _ 0 cs.toArray rfl rfl (by rw [z1.out];exact a0U _ _ _ _ (by rfl)) ei2.out o1.out ?_;intro W1 f1 f2 f3 f4;have q0:W1.cell? ⟨wr.heap.size,0,none⟩=some (.int .i64 (K.F k 0)):=by { have:=W3 (f:=C8 K) (o:=k*6) (m:=6) (w:=W1) (b:=wr.heap.size) (by rw [← Hcs.out];exact f1) (j:=0) (by omega);rw [this];unfold C8;rw [show (k*6+0) / 6=k by omega,show (k*6+0) % 6=0 by omega] };have HW:Hid (Below wr.heap.size wr W1):=f4 _ _ ((Below.refl _ _).alloc (Nat.le_refl _) _) (Nat.le_refl _);clear f1 f2 f3 f4)|(go_at_call 85;refine (b4Z (w:=w) (k:Int) (HL.out.1.later HW.out) (by have:=a8o K k;have:=HR.out.2.2;omega) (Nat.le_succ _) (HL.out.2.later HW.out).c (HL.out.2.later HW.out).z (HL.out.2.later HW.out).o (b7G K k)).mono ?_;rintro e w5 ⟨⟨v5,rfl⟩,V5,L5,c5,z5,o5⟩;have H5:Hid (Lis w w5 V5 (D5 K k ++ [(k:Int)])/\Hdr w5 (w.heap.size+1) V5):=⟨L5,c5,z5,o5⟩;clear L5 c5 z5 o5))
    exact ⟨⟨k+1,V5,by omega,by simp,by have:=a6W K k;rw [hf,if_pos rfl] at this;rw [this];exact H5.out.1,H5.out.2⟩,by simp [intOf];omega⟩
  ·obtain rfl:k=K.nF:=by omega
   go_wp2
   go_ret
   exact ⟨V,rfl,HL.out.1⟩
end Go.Proofs.YtcgabodkegcpgaaDoor
