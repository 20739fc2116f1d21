/- Cancels: sameDones, and what it answers. No statement of the program is proved here. -/
import Derived.Test.YtcgabodkegcpgaaDoorWkp
namespace Go.Proofs.YtcgabodkegcpgaaDoor
open Go.Conc Go.RowKit
open Br (X OpD KO SO SP sfO Lk Fit Must DL Liv Clear)
set_option linter.unusedVariables false
set_option linter.unusedSimpArgs false
set_option maxHeartbeats 4000000
set_option maxRecDepth 100000 in
theorem cn_35 {kb:Kb}{l:List OpD}{K:Ker}{L:Nat→Option Lv}{r:Nat}{Inb:Nat→Option Seat}{nG:Nat}{w:World}{Stop:Goroutine→World→Prop}{gd ga gb n m p cap:Nat}{vc vo vk vl vb vs va ve vg:Value}{f:Nat→Value}(co:Co kb l K L r Inb nG w)(hp:p<n)(hd:w.cell? ⟨gd,p,none⟩=some (.slice (some ⟨gb,0,none⟩) m m))(hm:m≤4398046511104)(hf:w.rowIs ga 70 (m*5) f)(hg:w.rowIs gb 70 (m*5) f)(hF:∀ j,j<m*5→∃ x,f j=.int .i64 x)(za:sfO l ga=0)(zb:sfO l gb=0){a:Act}(hA:Lvs 211 [(2,vc),(5,vo),(6,vk),(8,vl),(11,vb),(12,.slice (some ⟨gd,0,none⟩) n cap),(17,vs),(18,.int .i64 p),(19,va),(20,ve),(21,.slice (some ⟨ga,0,none⟩) m m),(22,vg)] a)(k:List Item)(cs:List Frame)
  (hn:∀ a' w',Grown w w'→Lvs 211 [(2,vc),(5,vo),(6,vk),(8,vl),(11,vb),(12,.slice (some ⟨gd,0,none⟩) n cap),(17,vs),(18,.int .i64 p),(19,va),(20,ve),(21,.slice (some ⟨ga,0,none⟩) m m),(22,vg),(23,.bool true)] a'→Liv Tryd.prog true true (sfO l) Stop (G ((base 6).at a' k) cs) w') :
  Liv Tryd.prog true true (sfO l) Stop (G ((base 6).at a (.code (rg 35)::k)) cs) w:=by
 have i0:(0:Int)≤(p:Int):=by omega
 have i1:(p:Int)<(n:Int):=by omega
 have c1:∀ d,(w.at d).cell? ⟨gd,p,none⟩=some (.slice (some ⟨gb,0,none⟩) m m):=fun d=>hd
 refine lw_region (n:=35) (m:=0) (il:=[0,1,2,3,4,5,6]) (by kernel_rfl) ?_
 refine lw_val (v:=.slice (some ⟨ga,0,none⟩) m m) hA rfl (wanted_none rfl) (by decide) (by kernel_rfl) rfl (by decide) (fun d=>run_move rfl (hA.get rfl)) (fun a (hA:Lvs 211 [(135,.slice (some ⟨ga,0,none⟩) m m),(2,vc),(5,vo),(6,vk),(8,vl),(11,vb),(12,.slice (some ⟨gd,0,none⟩) n cap),(17,vs),(18,.int .i64 p),(19,va),(20,ve),(21,.slice (some ⟨ga,0,none⟩) m m),(22,vg)] a)=>?_)
 refine lw_val (v:=.slice (some ⟨gd,0,none⟩) n cap) hA rfl (wanted_none rfl) (by decide) (by kernel_rfl) rfl (by decide) (fun d=>run_move rfl (hA.get rfl)) (fun a (hA:Lvs 211 [(136,.slice (some ⟨gd,0,none⟩) n cap),(135,.slice (some ⟨ga,0,none⟩) m m),(2,vc),(5,vo),(6,vk),(8,vl),(11,vb),(12,.slice (some ⟨gd,0,none⟩) n cap),(17,vs),(18,.int .i64 p),(19,va),(20,ve),(21,.slice (some ⟨ga,0,none⟩) m m),(22,vg)] a)=>?_)
 refine lw_val (v:=.int .i64 p) hA rfl (wanted_none rfl) (by decide) (by kernel_rfl) rfl (by decide) (fun d=>run_move rfl (hA.get rfl)) (fun a (hA:Lvs 211 [(137,.int .i64 p),(136,.slice (some ⟨gd,0,none⟩) n cap),(135,.slice (some ⟨ga,0,none⟩) m m),(2,vc),(5,vo),(6,vk),(8,vl),(11,vb),(12,.slice (some ⟨gd,0,none⟩) n cap),(17,vs),(18,.int .i64 p),(19,va),(20,ve),(21,.slice (some ⟨ga,0,none⟩) m m),(22,vg)] a)=>?_)
 obtain ⟨o,ho,hop,hd,hg⟩:∃ o,(cnOps 35)[3]?=some o∧o.op=.indexAddr 64 (.tmp 136) (.tmp 137)∧o.dst=some 138∧o.guard=none:=⟨_,rfl,rfl,rfl,rfl⟩
 have e136:=hA.get (t:=136) rfl
 have e137:=hA.get (t:=137) rfl
 refine lw_val (v:=.pointer (some ⟨gd,p,none⟩)) hA ho (wanted_none hg) (by decide) (by rw [hop];rfl) hd (by decide) (fun d=>by unfold execOp;simp only [hop,e136,e137];go_simp) (fun a (hA:Lvs 211 [(138,.pointer (some ⟨gd,p,none⟩)),(137,.int .i64 p),(136,.slice (some ⟨gd,0,none⟩) n cap),(135,.slice (some ⟨ga,0,none⟩) m m),(2,vc),(5,vo),(6,vk),(8,vl),(11,vb),(12,.slice (some ⟨gd,0,none⟩) n cap),(17,vs),(18,.int .i64 p),(19,va),(20,ve),(21,.slice (some ⟨ga,0,none⟩) m m),(22,vg)] a)=>?_)
 clear ho hop hd hg e136 e137
 obtain ⟨o,ho,hop,hd,hg⟩:∃ o,(cnOps 35)[4]?=some o∧o.op=.load 65 (.tmp 138)∧o.dst=some 139∧o.guard=none:=⟨_,rfl,rfl,rfl,rfl⟩
 have e138:=hA.get (t:=138) rfl
 refine lw_val (v:=.slice (some ⟨gb,0,none⟩) m m) hA ho (wanted_none hg) (by decide) (by rw [hop];rfl) hd (by decide) (fun d=>by have z0:=c1 d;clear c1;unfold execOp;simp only [hop,e138];go_simp;try rfl) (fun a (hA:Lvs 211 [(139,.slice (some ⟨gb,0,none⟩) m m),(138,.pointer (some ⟨gd,p,none⟩)),(137,.int .i64 p),(136,.slice (some ⟨gd,0,none⟩) n cap),(135,.slice (some ⟨ga,0,none⟩) m m),(2,vc),(5,vo),(6,vk),(8,vl),(11,vb),(12,.slice (some ⟨gd,0,none⟩) n cap),(17,vs),(18,.int .i64 p),(19,va),(20,ve),(21,.slice (some ⟨ga,0,none⟩) m m),(22,vg)] a)=>?_)
 clear ho hop hd hg e138
 replace hA:Lvs 211 [(2,vc),(5,vo),(6,vk),(8,vl),(11,vb),(12,.slice (some ⟨gd,0,none⟩) n cap),(17,vs),(18,.int .i64 p),(19,va),(20,ve),(21,.slice (some ⟨ga,0,none⟩) m m),(22,vg),(135,.slice (some ⟨ga,0,none⟩) m m),(139,.slice (some ⟨gb,0,none⟩) m m)] a:=hA.sub (fun p hp=>by
  simp only [List.mem_cons,List.not_mem_nil,or_false] at hp
  rcases hp with rfl|rfl|rfl|rfl|rfl|rfl|rfl|rfl|rfl|rfl|rfl|rfl|rfl|rfl<;>rfl)
 have e135:=hA.get (t:=135) rfl
 have e139:=hA.get (t:=139) rfl
 refine lw_call (vs:=#[.slice (some ⟨ga,0,none⟩) m m,.slice (some ⟨gb,0,none⟩) m m]) hA rfl rfl (by decide) rfl rfl (by decide) Tryd.func22 rfl rfl (by simp only [List.map_toArray,List.map_cons,List.map_nil,e135,e139]) (fun fr cs d=>must_sameDones co hm hf hg hF hF za zb fr cs d) (fun u w' hR a hA=>?_)
 obtain ⟨hG,t,rfl,ht⟩:=hR
 replace hA:Lvs 211 [(140,.bool t),(2,vc),(5,vo),(6,vk),(8,vl),(11,vb),(12,.slice (some ⟨gd,0,none⟩) n cap),(17,vs),(18,.int .i64 p),(19,va),(20,ve),(21,.slice (some ⟨ga,0,none⟩) m m),(22,vg),(135,.slice (some ⟨ga,0,none⟩) m m),(139,.slice (some ⟨gb,0,none⟩) m m)] a:=hA
 obtain rfl:=ht (fun _ _=>rfl)
 refine lw_val (v:=.bool true) hA rfl (wanted_none rfl) (by decide) (by kernel_rfl) rfl (by decide) (fun d=>run_assign rfl (hA.get rfl)) (fun a (hA:Lvs 211 [(23,.bool true),(140,.bool true),(2,vc),(5,vo),(6,vk),(8,vl),(11,vb),(12,.slice (some ⟨gd,0,none⟩) n cap),(17,vs),(18,.int .i64 p),(19,va),(20,ve),(21,.slice (some ⟨ga,0,none⟩) m m),(22,vg),(135,.slice (some ⟨ga,0,none⟩) m m),(139,.slice (some ⟨gb,0,none⟩) m m)] a)=>?_)
 refine Br.liv_region_end ?_
 replace hA:Lvs 211 [(2,vc),(5,vo),(6,vk),(8,vl),(11,vb),(12,.slice (some ⟨gd,0,none⟩) n cap),(17,vs),(18,.int .i64 p),(19,va),(20,ve),(21,.slice (some ⟨ga,0,none⟩) m m),(22,vg),(23,.bool true)] a:=hA.sub (fun p hp=>by
  simp only [List.mem_cons,List.not_mem_nil,or_false] at hp
  rcases hp with rfl|rfl|rfl|rfl|rfl|rfl|rfl|rfl|rfl|rfl|rfl|rfl|rfl<;>rfl)
 exact hn a _ hG hA
set_option maxRecDepth 100000 in
theorem cn_43f {l:List OpD}{w:World}{Stop:Goroutine→World→Prop}{gd n cap m29 c29 m0 c0:Nat}{a29 a0:Option Addr}{a:Act}(hA:Lvs 211 [(5,.bool true),(12,.slice (some ⟨gd,0,none⟩) n cap),(17,.bool true),(26,.bool true),(27,.bool false),(28,.int .i64 0),(29,.slice a29 m29 c29),(30,.int .i64 0)] a)(k:List Item)(cs:List Frame)
  (hn:∀ a',Lvs 211 [(4,.bool true)] a'→Liv Tryd.prog true true (sfO l) Stop (G ((base 6).at a' k) cs) w) :
  Liv Tryd.prog true true (sfO l) Stop (G ((base 6).at a (.code (rg 43)::k)) cs) w:=by
 refine lw_region (n:=43) (m:=0) (il:=[0,1,2,3,4,5,6,7,8,9,10,11,12,13,14,15,16,17,18,19,20,21,22,23,24,25,26,27,28,29]) (by kernel_rfl) ?_
 refine lw_val (v:=.bool true) hA rfl (wanted_none rfl) (by decide) (by kernel_rfl) rfl (by decide) (fun d=>run_move rfl (hA.get rfl)) (fun a (hA:Lvs 211 [(182,.bool true),(5,.bool true),(12,.slice (some ⟨gd,0,none⟩) n cap),(17,.bool true),(26,.bool true),(27,.bool false),(28,.int .i64 0),(29,.slice a29 m29 c29),(30,.int .i64 0)] a)=>?_)
 refine lw_val (v:=.bool true) hA rfl (wanted_none rfl) (by decide) (by kernel_rfl) rfl (by decide) (fun d=>run_move rfl (hA.get rfl)) (fun a (hA:Lvs 211 [(183,.bool true),(182,.bool true),(5,.bool true),(12,.slice (some ⟨gd,0,none⟩) n cap),(17,.bool true),(26,.bool true),(27,.bool false),(28,.int .i64 0),(29,.slice a29 m29 c29),(30,.int .i64 0)] a)=>?_)
 refine lw_val (v:=.bool true) hA rfl ((hA.wanted (x:=true) rfl rfl rfl rfl).trans rfl) (by decide) (by kernel_rfl) rfl (by decide) (fun d=>run_move rfl (hA.get rfl)) (fun a (hA:Lvs 211 [(184,.bool true),(183,.bool true),(182,.bool true),(5,.bool true),(12,.slice (some ⟨gd,0,none⟩) n cap),(17,.bool true),(26,.bool true),(27,.bool false),(28,.int .i64 0),(29,.slice a29 m29 c29),(30,.int .i64 0)] a)=>?_)
 obtain ⟨o,ho,hop,hd,hg⟩:∃ o,(cnOps 43)[3]?=some o∧o.op=.pick (.tmp 183) (.tmp 184) (.const (.bool false))∧o.dst=some 185∧o.guard=none:=⟨_,rfl,rfl,rfl,rfl⟩
 have e183:=hA.get (t:=183) rfl
 have e184:=hA.get (t:=184) rfl
 refine lw_val (v:=.bool true) hA ho (wanted_none hg) (by decide) (by rw [hop];rfl) hd (by decide) (fun d=>by unfold execOp;simp only [hop,e183,e184];go_simp) (fun a (hA:Lvs 211 [(185,.bool true),(184,.bool true),(183,.bool true),(182,.bool true),(5,.bool true),(12,.slice (some ⟨gd,0,none⟩) n cap),(17,.bool true),(26,.bool true),(27,.bool false),(28,.int .i64 0),(29,.slice a29 m29 c29),(30,.int .i64 0)] a)=>?_)
 clear ho hop hd hg e183 e184
 refine lw_val (v:=.bool true) hA rfl (wanted_none rfl) (by decide) (by kernel_rfl) rfl (by decide) (fun d=>run_move rfl (hA.get rfl)) (fun a (hA:Lvs 211 [(186,.bool true),(185,.bool true),(184,.bool true),(183,.bool true),(182,.bool true),(5,.bool true),(12,.slice (some ⟨gd,0,none⟩) n cap),(17,.bool true),(26,.bool true),(27,.bool false),(28,.int .i64 0),(29,.slice a29 m29 c29),(30,.int .i64 0)] a)=>?_)
 replace hA:Lvs 211 [(12,.slice (some ⟨gd,0,none⟩) n cap),(26,.bool true),(27,.bool false),(28,.int .i64 0),(29,.slice a29 m29 c29),(30,.int .i64 0),(186,.bool true)] a:=hA.sub (fun p hp=>by
  simp only [List.mem_cons,List.not_mem_nil,or_false] at hp
  rcases hp with rfl|rfl|rfl|rfl|rfl|rfl|rfl<;>rfl)
 refine lw_val (v:=.bool true) hA rfl ((hA.wanted (x:=true) rfl rfl rfl rfl).trans rfl) (by decide) (by kernel_rfl) rfl (by decide) (fun d=>run_move rfl (hA.get rfl)) (fun a (hA:Lvs 211 [(187,.bool true),(12,.slice (some ⟨gd,0,none⟩) n cap),(26,.bool true),(27,.bool false),(28,.int .i64 0),(29,.slice a29 m29 c29),(30,.int .i64 0),(186,.bool true)] a)=>?_)
 obtain ⟨o,ho,hop,hd,hg⟩:∃ o,(cnOps 43)[6]?=some o∧o.op=.pick (.tmp 186) (.tmp 187) (.const (.bool false))∧o.dst=some 188∧o.guard=none:=⟨_,rfl,rfl,rfl,rfl⟩
 have e186:=hA.get (t:=186) rfl
 have e187:=hA.get (t:=187) rfl
 refine lw_val (v:=.bool true) hA ho (wanted_none hg) (by decide) (by rw [hop];rfl) hd (by decide) (fun d=>by unfold execOp;simp only [hop,e186,e187];go_simp) (fun a (hA:Lvs 211 [(188,.bool true),(187,.bool true),(12,.slice (some ⟨gd,0,none⟩) n cap),(26,.bool true),(27,.bool false),(28,.int .i64 0),(29,.slice a29 m29 c29),(30,.int .i64 0),(186,.bool true)] a)=>?_)
 clear ho hop hd hg e186 e187
 refine lw_val (v:=.bool true) hA rfl (wanted_none rfl) (by decide) (by kernel_rfl) rfl (by decide) (fun d=>run_move rfl (hA.get rfl)) (fun a (hA:Lvs 211 [(189,.bool true),(188,.bool true),(187,.bool true),(12,.slice (some ⟨gd,0,none⟩) n cap),(26,.bool true),(27,.bool false),(28,.int .i64 0),(29,.slice a29 m29 c29),(30,.int .i64 0),(186,.bool true)] a)=>?_)
 replace hA:Lvs 211 [(12,.slice (some ⟨gd,0,none⟩) n cap),(27,.bool false),(28,.int .i64 0),(29,.slice a29 m29 c29),(30,.int .i64 0),(189,.bool true)] a:=hA.sub (fun p hp=>by
  simp only [List.mem_cons,List.not_mem_nil,or_false] at hp
  rcases hp with rfl|rfl|rfl|rfl|rfl|rfl<;>rfl)
 refine lw_val (v:=.int .i64 0) hA rfl ((hA.wanted (x:=true) rfl rfl rfl rfl).trans rfl) (by decide) (by kernel_rfl) rfl (by decide) (fun d=>run_move rfl (hA.get rfl)) (fun a (hA:Lvs 211 [(190,.int .i64 0),(12,.slice (some ⟨gd,0,none⟩) n cap),(27,.bool false),(28,.int .i64 0),(29,.slice a29 m29 c29),(30,.int .i64 0),(189,.bool true)] a)=>?_)
 obtain ⟨o,ho,hop,hd,hg⟩:∃ o,(cnOps 43)[9]?=some o∧o.op=.binOp .eql 26 (.tmp 190) (.const (.int .i64 0)) 26∧o.dst=some 191∧o.guard=some (7,true):=⟨_,rfl,rfl,rfl,rfl⟩
 have e190:=hA.get (t:=190) rfl
 refine lw_val (v:=.bool true) hA ho ((hA.wanted (x:=true) hg rfl rfl rfl).trans rfl) (by decide) (by rw [hop];rfl) hd (by decide) (fun d=>by unfold execOp;simp only [hop,e190];go_simp) (fun a (hA:Lvs 211 [(191,.bool true),(190,.int .i64 0),(12,.slice (some ⟨gd,0,none⟩) n cap),(27,.bool false),(28,.int .i64 0),(29,.slice a29 m29 c29),(30,.int .i64 0),(189,.bool true)] a)=>?_)
 clear ho hop hd hg e190
 obtain ⟨o,ho,hop,hd,hg⟩:∃ o,(cnOps 43)[10]?=some o∧o.op=.pick (.tmp 189) (.tmp 191) (.const (.bool false))∧o.dst=some 192∧o.guard=none:=⟨_,rfl,rfl,rfl,rfl⟩
 have e189:=hA.get (t:=189) rfl
 have e191:=hA.get (t:=191) rfl
 refine lw_val (v:=.bool true) hA ho (wanted_none hg) (by decide) (by rw [hop];rfl) hd (by decide) (fun d=>by unfold execOp;simp only [hop,e189,e191];go_simp) (fun a (hA:Lvs 211 [(192,.bool true),(191,.bool true),(190,.int .i64 0),(12,.slice (some ⟨gd,0,none⟩) n cap),(27,.bool false),(28,.int .i64 0),(29,.slice a29 m29 c29),(30,.int .i64 0),(189,.bool true)] a)=>?_)
 clear ho hop hd hg e189 e191
 refine lw_val (v:=.bool true) hA rfl (wanted_none rfl) (by decide) (by kernel_rfl) rfl (by decide) (fun d=>run_move rfl (hA.get rfl)) (fun a (hA:Lvs 211 [(193,.bool true),(192,.bool true),(191,.bool true),(190,.int .i64 0),(12,.slice (some ⟨gd,0,none⟩) n cap),(27,.bool false),(28,.int .i64 0),(29,.slice a29 m29 c29),(30,.int .i64 0),(189,.bool true)] a)=>?_)
 replace hA:Lvs 211 [(12,.slice (some ⟨gd,0,none⟩) n cap),(27,.bool false),(29,.slice a29 m29 c29),(30,.int .i64 0),(193,.bool true)] a:=hA.sub (fun p hp=>by
  simp only [List.mem_cons,List.not_mem_nil,or_false] at hp
  rcases hp with rfl|rfl|rfl|rfl|rfl<;>rfl)
 refine lw_val (v:=.int .i64 0) hA rfl ((hA.wanted (x:=true) rfl rfl rfl rfl).trans rfl) (by decide) (by kernel_rfl) rfl (by decide) (fun d=>run_move rfl (hA.get rfl)) (fun a (hA:Lvs 211 [(194,.int .i64 0),(12,.slice (some ⟨gd,0,none⟩) n cap),(27,.bool false),(29,.slice a29 m29 c29),(30,.int .i64 0),(193,.bool true)] a)=>?_)
 obtain ⟨o,ho,hop,hd,hg⟩:∃ o,(cnOps 43)[13]?=some o∧o.op=.binOp .eql 26 (.tmp 194) (.const (.int .i64 0)) 26∧o.dst=some 195∧o.guard=some (11,true):=⟨_,rfl,rfl,rfl,rfl⟩
 have e194:=hA.get (t:=194) rfl
 refine lw_val (v:=.bool true) hA ho ((hA.wanted (x:=true) hg rfl rfl rfl).trans rfl) (by decide) (by rw [hop];rfl) hd (by decide) (fun d=>by unfold execOp;simp only [hop,e194];go_simp) (fun a (hA:Lvs 211 [(195,.bool true),(194,.int .i64 0),(12,.slice (some ⟨gd,0,none⟩) n cap),(27,.bool false),(29,.slice a29 m29 c29),(30,.int .i64 0),(193,.bool true)] a)=>?_)
 clear ho hop hd hg e194
 obtain ⟨o,ho,hop,hd,hg⟩:∃ o,(cnOps 43)[14]?=some o∧o.op=.pick (.tmp 193) (.tmp 195) (.const (.bool false))∧o.dst=some 196∧o.guard=none:=⟨_,rfl,rfl,rfl,rfl⟩
 have e193:=hA.get (t:=193) rfl
 have e195:=hA.get (t:=195) rfl
 refine lw_val (v:=.bool true) hA ho (wanted_none hg) (by decide) (by rw [hop];rfl) hd (by decide) (fun d=>by unfold execOp;simp only [hop,e193,e195];go_simp) (fun a (hA:Lvs 211 [(196,.bool true),(195,.bool true),(194,.int .i64 0),(12,.slice (some ⟨gd,0,none⟩) n cap),(27,.bool false),(29,.slice a29 m29 c29),(30,.int .i64 0),(193,.bool true)] a)=>?_)
 clear ho hop hd hg e193 e195
 refine lw_val (v:=.bool true) hA rfl (wanted_none rfl) (by decide) (by kernel_rfl) rfl (by decide) (fun d=>run_move rfl (hA.get rfl)) (fun a (hA:Lvs 211 [(197,.bool true),(196,.bool true),(195,.bool true),(194,.int .i64 0),(12,.slice (some ⟨gd,0,none⟩) n cap),(27,.bool false),(29,.slice a29 m29 c29),(30,.int .i64 0),(193,.bool true)] a)=>?_)
 replace hA:Lvs 211 [(12,.slice (some ⟨gd,0,none⟩) n cap),(27,.bool false),(29,.slice a29 m29 c29),(197,.bool true)] a:=hA.sub (fun p hp=>by
  simp only [List.mem_cons,List.not_mem_nil,or_false] at hp
  rcases hp with rfl|rfl|rfl|rfl<;>rfl)
 refine lw_val (v:=.bool false) hA rfl ((hA.wanted (x:=true) rfl rfl rfl rfl).trans rfl) (by decide) (by kernel_rfl) rfl (by decide) (fun d=>run_move rfl (hA.get rfl)) (fun a (hA:Lvs 211 [(198,.bool false),(12,.slice (some ⟨gd,0,none⟩) n cap),(27,.bool false),(29,.slice a29 m29 c29),(197,.bool true)] a)=>?_)
 obtain ⟨o,ho,hop,hd,hg⟩:∃ o,(cnOps 43)[17]?=some o∧o.op=.unOp .not 4 (.tmp 198)∧o.dst=some 199∧o.guard=some (15,true):=⟨_,rfl,rfl,rfl,rfl⟩
 have e198:=hA.get (t:=198) rfl
 refine lw_val (v:=.bool true) hA ho ((hA.wanted (x:=true) hg rfl rfl rfl).trans rfl) (by decide) (by rw [hop];rfl) hd (by decide) (fun d=>by unfold execOp;simp only [hop,e198];go_simp) (fun a (hA:Lvs 211 [(199,.bool true),(198,.bool false),(12,.slice (some ⟨gd,0,none⟩) n cap),(27,.bool false),(29,.slice a29 m29 c29),(197,.bool true)] a)=>?_)
 clear ho hop hd hg e198
 refine lw_val (v:=.bool true) hA rfl ((hA.wanted (x:=true) rfl rfl rfl rfl).trans rfl) (by decide) (by kernel_rfl) rfl (by decide) (fun d=>run_move rfl (hA.get rfl)) (fun a (hA:Lvs 211 [(200,.bool true),(199,.bool true),(198,.bool false),(12,.slice (some ⟨gd,0,none⟩) n cap),(27,.bool false),(29,.slice a29 m29 c29),(197,.bool true)] a)=>?_)
 refine lw_skip hA rfl ((hA.wanted (x:=true) rfl rfl rfl rfl).trans rfl) rfl (by decide) (fun a (hA:Lvs 211 [(201,undef),(200,.bool true),(199,.bool true),(198,.bool false),(12,.slice (some ⟨gd,0,none⟩) n cap),(27,.bool false),(29,.slice a29 m29 c29),(197,.bool true)] a)=>?_)
 refine lw_skip hA rfl ((hA.wanted (x:=true) rfl rfl rfl rfl).trans rfl) rfl (by decide) (fun a (hA:Lvs 211 [(202,undef),(201,undef),(200,.bool true),(199,.bool true),(198,.bool false),(12,.slice (some ⟨gd,0,none⟩) n cap),(27,.bool false),(29,.slice a29 m29 c29),(197,.bool true)] a)=>?_)
 refine lw_skip hA rfl ((hA.wanted (x:=true) rfl rfl rfl rfl).trans rfl) rfl (by decide) (fun a (hA:Lvs 211 [(203,undef),(202,undef),(201,undef),(200,.bool true),(199,.bool true),(198,.bool false),(12,.slice (some ⟨gd,0,none⟩) n cap),(27,.bool false),(29,.slice a29 m29 c29),(197,.bool true)] a)=>?_)
 refine lw_skip hA rfl ((hA.wanted (x:=true) rfl rfl rfl rfl).trans rfl) rfl (by decide) (fun a (hA:Lvs 211 [(204,undef),(203,undef),(202,undef),(201,undef),(200,.bool true),(199,.bool true),(198,.bool false),(12,.slice (some ⟨gd,0,none⟩) n cap),(27,.bool false),(29,.slice a29 m29 c29),(197,.bool true)] a)=>?_)
 refine lw_skip hA rfl ((hA.wanted (x:=true) rfl rfl rfl rfl).trans rfl) rfl (by decide) (fun a (hA:Lvs 211 [(205,undef),(204,undef),(203,undef),(202,undef),(201,undef),(200,.bool true),(199,.bool true),(198,.bool false),(12,.slice (some ⟨gd,0,none⟩) n cap),(27,.bool false),(29,.slice a29 m29 c29),(197,.bool true)] a)=>?_)
 refine lw_skip hA rfl ((hA.wanted (x:=true) rfl rfl rfl rfl).trans rfl) rfl (by decide) (fun a (hA:Lvs 211 [(206,undef),(205,undef),(204,undef),(203,undef),(202,undef),(201,undef),(200,.bool true),(199,.bool true),(198,.bool false),(12,.slice (some ⟨gd,0,none⟩) n cap),(27,.bool false),(29,.slice a29 m29 c29),(197,.bool true)] a)=>?_)
 refine lw_skip hA rfl ((hA.wanted (x:=true) rfl rfl rfl rfl).trans rfl) rfl (by decide) (fun a (hA:Lvs 211 [(207,undef),(206,undef),(205,undef),(204,undef),(203,undef),(202,undef),(201,undef),(200,.bool true),(199,.bool true),(198,.bool false),(12,.slice (some ⟨gd,0,none⟩) n cap),(27,.bool false),(29,.slice a29 m29 c29),(197,.bool true)] a)=>?_)
 refine lw_skip hA rfl ((hA.wanted (x:=true) rfl rfl rfl rfl).trans rfl) rfl (by decide) (fun a (hA:Lvs 211 [(208,undef),(207,undef),(206,undef),(205,undef),(204,undef),(203,undef),(202,undef),(201,undef),(200,.bool true),(199,.bool true),(198,.bool false),(12,.slice (some ⟨gd,0,none⟩) n cap),(27,.bool false),(29,.slice a29 m29 c29),(197,.bool true)] a)=>?_)
 replace hA:Lvs 211 [(197,.bool true),(200,.bool true),(208,undef)] a:=hA.sub (fun p hp=>by
  simp only [List.mem_cons,List.not_mem_nil,or_false] at hp
  rcases hp with rfl|rfl|rfl<;>rfl)
 replace hA:Lvs 211 [(197,.bool true),(200,.bool true),(208,undef)] a:=hA.sub (fun p hp=>by
  simp only [List.mem_cons,List.not_mem_nil,or_false] at hp
  rcases hp with rfl|rfl|rfl<;>rfl)
 obtain ⟨o,ho,hop,hd,hg⟩:∃ o,(cnOps 43)[27]?=some o∧o.op=.pick (.tmp 200) (.const (.bool true)) (.tmp 208)∧o.dst=some 209∧o.guard=some (15,true):=⟨_,rfl,rfl,rfl,rfl⟩
 have e200:=hA.get (t:=200) rfl
 have e208:=hA.get (t:=208) rfl
 refine lw_val (v:=.bool true) hA ho ((hA.wanted (x:=true) hg rfl rfl rfl).trans rfl) (by decide) (by rw [hop];rfl) hd (by decide) (fun d=>by unfold execOp;simp only [hop,e200,e208];go_simp) (fun a (hA:Lvs 211 [(209,.bool true),(197,.bool true),(200,.bool true),(208,undef)] a)=>?_)
 clear ho hop hd hg e200 e208
 obtain ⟨o,ho,hop,hd,hg⟩:∃ o,(cnOps 43)[28]?=some o∧o.op=.pick (.tmp 197) (.tmp 209) (.const (.bool false))∧o.dst=some 210∧o.guard=none:=⟨_,rfl,rfl,rfl,rfl⟩
 have e197:=hA.get (t:=197) rfl
 have e209:=hA.get (t:=209) rfl
 refine lw_val (v:=.bool true) hA ho (wanted_none hg) (by decide) (by rw [hop];rfl) hd (by decide) (fun d=>by unfold execOp;simp only [hop,e197,e209];go_simp) (fun a (hA:Lvs 211 [(210,.bool true),(209,.bool true),(197,.bool true),(200,.bool true),(208,undef)] a)=>?_)
 clear ho hop hd hg e197 e209
 refine lw_val (v:=.bool true) hA rfl (wanted_none rfl) (by decide) (by kernel_rfl) rfl (by decide) (fun d=>run_assign rfl (hA.get rfl)) (fun a (hA:Lvs 211 [(4,.bool true),(210,.bool true),(209,.bool true),(197,.bool true),(200,.bool true),(208,undef)] a)=>?_)
 refine Br.liv_region_end ?_
 replace hA:Lvs 211 [(4,.bool true)] a:=hA.sub (fun p hp=>by
  simp only [List.mem_cons,List.not_mem_nil,or_false] at hp
  rcases hp with rfl<;>rfl)
 exact hn a hA
set_option maxRecDepth 100000 in
theorem cn_43t {l:List OpD}{w:World}{Stop:Goroutine→World→Prop}{gd n cap m29 c29 m0 c0:Nat}{a29 a0:Option Addr}(hn0:0<n)(hd:w.cell? ⟨gd,0,none⟩=some (.slice a0 m0 c0))(hlen:m29=m0+1)(hbig:m0<9223372036854775807){a:Act}(hA:Lvs 211 [(5,.bool true),(12,.slice (some ⟨gd,0,none⟩) n cap),(17,.bool true),(26,.bool true),(27,.bool true),(28,.int .i64 0),(29,.slice a29 m29 c29),(30,.int .i64 0)] a)(k:List Item)(cs:List Frame)
  (hn:∀ a',Lvs 211 [(4,.bool true)] a'→Liv Tryd.prog true true (sfO l) Stop (G ((base 6).at a' k) cs) w) :
  Liv Tryd.prog true true (sfO l) Stop (G ((base 6).at a (.code (rg 43)::k)) cs) w:=by
 have i1:(0:Int)<(n:Int):=by omega
 have c1:∀ d,(w.at d).cell? ⟨gd,0,none⟩=some (.slice a0 m0 c0):=fun d=>hd
 refine lw_region (n:=43) (m:=0) (il:=[0,1,2,3,4,5,6,7,8,9,10,11,12,13,14,15,16,17,18,19,20,21,22,23,24,25,26,27,28,29]) (by kernel_rfl) ?_
 refine lw_val (v:=.bool true) hA rfl (wanted_none rfl) (by decide) (by kernel_rfl) rfl (by decide) (fun d=>run_move rfl (hA.get rfl)) (fun a (hA:Lvs 211 [(182,.bool true),(5,.bool true),(12,.slice (some ⟨gd,0,none⟩) n cap),(17,.bool true),(26,.bool true),(27,.bool true),(28,.int .i64 0),(29,.slice a29 m29 c29),(30,.int .i64 0)] a)=>?_)
 refine lw_val (v:=.bool true) hA rfl (wanted_none rfl) (by decide) (by kernel_rfl) rfl (by decide) (fun d=>run_move rfl (hA.get rfl)) (fun a (hA:Lvs 211 [(183,.bool true),(182,.bool true),(5,.bool true),(12,.slice (some ⟨gd,0,none⟩) n cap),(17,.bool true),(26,.bool true),(27,.bool true),(28,.int .i64 0),(29,.slice a29 m29 c29),(30,.int .i64 0)] a)=>?_)
 refine lw_val (v:=.bool true) hA rfl ((hA.wanted (x:=true) rfl rfl rfl rfl).trans rfl) (by decide) (by kernel_rfl) rfl (by decide) (fun d=>run_move rfl (hA.get rfl)) (fun a (hA:Lvs 211 [(184,.bool true),(183,.bool true),(182,.bool true),(5,.bool true),(12,.slice (some ⟨gd,0,none⟩) n cap),(17,.bool true),(26,.bool true),(27,.bool true),(28,.int .i64 0),(29,.slice a29 m29 c29),(30,.int .i64 0)] a)=>?_)
 obtain ⟨o,ho,hop,hd,hg⟩:∃ o,(cnOps 43)[3]?=some o∧o.op=.pick (.tmp 183) (.tmp 184) (.const (.bool false))∧o.dst=some 185∧o.guard=none:=⟨_,rfl,rfl,rfl,rfl⟩
 have e183:=hA.get (t:=183) rfl
 have e184:=hA.get (t:=184) rfl
 refine lw_val (v:=.bool true) hA ho (wanted_none hg) (by decide) (by rw [hop];rfl) hd (by decide) (fun d=>by unfold execOp;simp only [hop,e183,e184];go_simp) (fun a (hA:Lvs 211 [(185,.bool true),(184,.bool true),(183,.bool true),(182,.bool true),(5,.bool true),(12,.slice (some ⟨gd,0,none⟩) n cap),(17,.bool true),(26,.bool true),(27,.bool true),(28,.int .i64 0),(29,.slice a29 m29 c29),(30,.int .i64 0)] a)=>?_)
 clear ho hop hd hg e183 e184
 refine lw_val (v:=.bool true) hA rfl (wanted_none rfl) (by decide) (by kernel_rfl) rfl (by decide) (fun d=>run_move rfl (hA.get rfl)) (fun a (hA:Lvs 211 [(186,.bool true),(185,.bool true),(184,.bool true),(183,.bool true),(182,.bool true),(5,.bool true),(12,.slice (some ⟨gd,0,none⟩) n cap),(17,.bool true),(26,.bool true),(27,.bool true),(28,.int .i64 0),(29,.slice a29 m29 c29),(30,.int .i64 0)] a)=>?_)
 replace hA:Lvs 211 [(12,.slice (some ⟨gd,0,none⟩) n cap),(26,.bool true),(27,.bool true),(28,.int .i64 0),(29,.slice a29 m29 c29),(30,.int .i64 0),(186,.bool true)] a:=hA.sub (fun p hp=>by
  simp only [List.mem_cons,List.not_mem_nil,or_false] at hp
  rcases hp with rfl|rfl|rfl|rfl|rfl|rfl|rfl<;>rfl)
 refine lw_val (v:=.bool true) hA rfl ((hA.wanted (x:=true) rfl rfl rfl rfl).trans rfl) (by decide) (by kernel_rfl) rfl (by decide) (fun d=>run_move rfl (hA.get rfl)) (fun a (hA:Lvs 211 [(187,.bool true),(12,.slice (some ⟨gd,0,none⟩) n cap),(26,.bool true),(27,.bool true),(28,.int .i64 0),(29,.slice a29 m29 c29),(30,.int .i64 0),(186,.bool true)] a)=>?_)
 obtain ⟨o,ho,hop,hd,hg⟩:∃ o,(cnOps 43)[6]?=some o∧o.op=.pick (.tmp 186) (.tmp 187) (.const (.bool false))∧o.dst=some 188∧o.guard=none:=⟨_,rfl,rfl,rfl,rfl⟩
 have e186:=hA.get (t:=186) rfl
 have e187:=hA.get (t:=187) rfl
 refine lw_val (v:=.bool true) hA ho (wanted_none hg) (by decide) (by rw [hop];rfl) hd (by decide) (fun d=>by unfold execOp;simp only [hop,e186,e187];go_simp) (fun a (hA:Lvs 211 [(188,.bool true),(187,.bool true),(12,.slice (some ⟨gd,0,none⟩) n cap),(26,.bool true),(27,.bool true),(28,.int .i64 0),(29,.slice a29 m29 c29),(30,.int .i64 0),(186,.bool true)] a)=>?_)
 clear ho hop hd hg e186 e187
 refine lw_val (v:=.bool true) hA rfl (wanted_none rfl) (by decide) (by kernel_rfl) rfl (by decide) (fun d=>run_move rfl (hA.get rfl)) (fun a (hA:Lvs 211 [(189,.bool true),(188,.bool true),(187,.bool true),(12,.slice (some ⟨gd,0,none⟩) n cap),(26,.bool true),(27,.bool true),(28,.int .i64 0),(29,.slice a29 m29 c29),(30,.int .i64 0),(186,.bool true)] a)=>?_)
 replace hA:Lvs 211 [(12,.slice (some ⟨gd,0,none⟩) n cap),(27,.bool true),(28,.int .i64 0),(29,.slice a29 m29 c29),(30,.int .i64 0),(189,.bool true)] a:=hA.sub (fun p hp=>by
  simp only [List.mem_cons,List.not_mem_nil,or_false] at hp
  rcases hp with rfl|rfl|rfl|rfl|rfl|rfl<;>rfl)
 refine lw_val (v:=.int .i64 0) hA rfl ((hA.wanted (x:=true) rfl rfl rfl rfl).trans rfl) (by decide) (by kernel_rfl) rfl (by decide) (fun d=>run_move rfl (hA.get rfl)) (fun a (hA:Lvs 211 [(190,.int .i64 0),(12,.slice (some ⟨gd,0,none⟩) n cap),(27,.bool true),(28,.int .i64 0),(29,.slice a29 m29 c29),(30,.int .i64 0),(189,.bool true)] a)=>?_)
 obtain ⟨o,ho,hop,hd,hg⟩:∃ o,(cnOps 43)[9]?=some o∧o.op=.binOp .eql 26 (.tmp 190) (.const (.int .i64 0)) 26∧o.dst=some 191∧o.guard=some (7,true):=⟨_,rfl,rfl,rfl,rfl⟩
 have e190:=hA.get (t:=190) rfl
 refine lw_val (v:=.bool true) hA ho ((hA.wanted (x:=true) hg rfl rfl rfl).trans rfl) (by decide) (by rw [hop];rfl) hd (by decide) (fun d=>by unfold execOp;simp only [hop,e190];go_simp) (fun a (hA:Lvs 211 [(191,.bool true),(190,.int .i64 0),(12,.slice (some ⟨gd,0,none⟩) n cap),(27,.bool true),(28,.int .i64 0),(29,.slice a29 m29 c29),(30,.int .i64 0),(189,.bool true)] a)=>?_)
 clear ho hop hd hg e190
 obtain ⟨o,ho,hop,hd,hg⟩:∃ o,(cnOps 43)[10]?=some o∧o.op=.pick (.tmp 189) (.tmp 191) (.const (.bool false))∧o.dst=some 192∧o.guard=none:=⟨_,rfl,rfl,rfl,rfl⟩
 have e189:=hA.get (t:=189) rfl
 have e191:=hA.get (t:=191) rfl
 refine lw_val (v:=.bool true) hA ho (wanted_none hg) (by decide) (by rw [hop];rfl) hd (by decide) (fun d=>by unfold execOp;simp only [hop,e189,e191];go_simp) (fun a (hA:Lvs 211 [(192,.bool true),(191,.bool true),(190,.int .i64 0),(12,.slice (some ⟨gd,0,none⟩) n cap),(27,.bool true),(28,.int .i64 0),(29,.slice a29 m29 c29),(30,.int .i64 0),(189,.bool true)] a)=>?_)
 clear ho hop hd hg e189 e191
 refine lw_val (v:=.bool true) hA rfl (wanted_none rfl) (by decide) (by kernel_rfl) rfl (by decide) (fun d=>run_move rfl (hA.get rfl)) (fun a (hA:Lvs 211 [(193,.bool true),(192,.bool true),(191,.bool true),(190,.int .i64 0),(12,.slice (some ⟨gd,0,none⟩) n cap),(27,.bool true),(28,.int .i64 0),(29,.slice a29 m29 c29),(30,.int .i64 0),(189,.bool true)] a)=>?_)
 replace hA:Lvs 211 [(12,.slice (some ⟨gd,0,none⟩) n cap),(27,.bool true),(29,.slice a29 m29 c29),(30,.int .i64 0),(193,.bool true)] a:=hA.sub (fun p hp=>by
  simp only [List.mem_cons,List.not_mem_nil,or_false] at hp
  rcases hp with rfl|rfl|rfl|rfl|rfl<;>rfl)
 refine lw_val (v:=.int .i64 0) hA rfl ((hA.wanted (x:=true) rfl rfl rfl rfl).trans rfl) (by decide) (by kernel_rfl) rfl (by decide) (fun d=>run_move rfl (hA.get rfl)) (fun a (hA:Lvs 211 [(194,.int .i64 0),(12,.slice (some ⟨gd,0,none⟩) n cap),(27,.bool true),(29,.slice a29 m29 c29),(30,.int .i64 0),(193,.bool true)] a)=>?_)
 obtain ⟨o,ho,hop,hd,hg⟩:∃ o,(cnOps 43)[13]?=some o∧o.op=.binOp .eql 26 (.tmp 194) (.const (.int .i64 0)) 26∧o.dst=some 195∧o.guard=some (11,true):=⟨_,rfl,rfl,rfl,rfl⟩
 have e194:=hA.get (t:=194) rfl
 refine lw_val (v:=.bool true) hA ho ((hA.wanted (x:=true) hg rfl rfl rfl).trans rfl) (by decide) (by rw [hop];rfl) hd (by decide) (fun d=>by unfold execOp;simp only [hop,e194];go_simp) (fun a (hA:Lvs 211 [(195,.bool true),(194,.int .i64 0),(12,.slice (some ⟨gd,0,none⟩) n cap),(27,.bool true),(29,.slice a29 m29 c29),(30,.int .i64 0),(193,.bool true)] a)=>?_)
 clear ho hop hd hg e194
 obtain ⟨o,ho,hop,hd,hg⟩:∃ o,(cnOps 43)[14]?=some o∧o.op=.pick (.tmp 193) (.tmp 195) (.const (.bool false))∧o.dst=some 196∧o.guard=none:=⟨_,rfl,rfl,rfl,rfl⟩
 have e193:=hA.get (t:=193) rfl
 have e195:=hA.get (t:=195) rfl
 refine lw_val (v:=.bool true) hA ho (wanted_none hg) (by decide) (by rw [hop];rfl) hd (by decide) (fun d=>by unfold execOp;simp only [hop,e193,e195];go_simp) (fun a (hA:Lvs 211 [(196,.bool true),(195,.bool true),(194,.int .i64 0),(12,.slice (some ⟨gd,0,none⟩) n cap),(27,.bool true),(29,.slice a29 m29 c29),(30,.int .i64 0),(193,.bool true)] a)=>?_)
 clear ho hop hd hg e193 e195
 refine lw_val (v:=.bool true) hA rfl (wanted_none rfl) (by decide) (by kernel_rfl) rfl (by decide) (fun d=>run_move rfl (hA.get rfl)) (fun a (hA:Lvs 211 [(197,.bool true),(196,.bool true),(195,.bool true),(194,.int .i64 0),(12,.slice (some ⟨gd,0,none⟩) n cap),(27,.bool true),(29,.slice a29 m29 c29),(30,.int .i64 0),(193,.bool true)] a)=>?_)
 replace hA:Lvs 211 [(12,.slice (some ⟨gd,0,none⟩) n cap),(27,.bool true),(29,.slice a29 m29 c29),(197,.bool true)] a:=hA.sub (fun p hp=>by
  simp only [List.mem_cons,List.not_mem_nil,or_false] at hp
  rcases hp with rfl|rfl|rfl|rfl<;>rfl)
 refine lw_val (v:=.bool true) hA rfl ((hA.wanted (x:=true) rfl rfl rfl rfl).trans rfl) (by decide) (by kernel_rfl) rfl (by decide) (fun d=>run_move rfl (hA.get rfl)) (fun a (hA:Lvs 211 [(198,.bool true),(12,.slice (some ⟨gd,0,none⟩) n cap),(27,.bool true),(29,.slice a29 m29 c29),(197,.bool true)] a)=>?_)
 obtain ⟨o,ho,hop,hd,hg⟩:∃ o,(cnOps 43)[17]?=some o∧o.op=.unOp .not 4 (.tmp 198)∧o.dst=some 199∧o.guard=some (15,true):=⟨_,rfl,rfl,rfl,rfl⟩
 have e198:=hA.get (t:=198) rfl
 refine lw_val (v:=.bool false) hA ho ((hA.wanted (x:=true) hg rfl rfl rfl).trans rfl) (by decide) (by rw [hop];rfl) hd (by decide) (fun d=>by unfold execOp;simp only [hop,e198];go_simp) (fun a (hA:Lvs 211 [(199,.bool false),(198,.bool true),(12,.slice (some ⟨gd,0,none⟩) n cap),(27,.bool true),(29,.slice a29 m29 c29),(197,.bool true)] a)=>?_)
 clear ho hop hd hg e198
 refine lw_val (v:=.bool false) hA rfl ((hA.wanted (x:=true) rfl rfl rfl rfl).trans rfl) (by decide) (by kernel_rfl) rfl (by decide) (fun d=>run_move rfl (hA.get rfl)) (fun a (hA:Lvs 211 [(200,.bool false),(199,.bool false),(198,.bool true),(12,.slice (some ⟨gd,0,none⟩) n cap),(27,.bool true),(29,.slice a29 m29 c29),(197,.bool true)] a)=>?_)
 refine lw_val (v:=.slice a29 m29 c29) hA rfl ((hA.wanted (x:=false) rfl rfl rfl rfl).trans rfl) (by decide) (by kernel_rfl) rfl (by decide) (fun d=>run_move rfl (hA.get rfl)) (fun a (hA:Lvs 211 [(201,.slice a29 m29 c29),(200,.bool false),(199,.bool false),(198,.bool true),(12,.slice (some ⟨gd,0,none⟩) n cap),(27,.bool true),(29,.slice a29 m29 c29),(197,.bool true)] a)=>?_)
 have e201:=hA.get (t:=201) rfl
 refine lw_val (v:=.int .i64 m29) hA rfl ((hA.wanted (x:=false) rfl rfl rfl rfl).trans rfl) (by decide) (by kernel_rfl) rfl (by decide) (fun d=>run_len rfl Tryd.underlying65 e201) (fun a (hA:Lvs 211 [(202,.int .i64 m29),(201,.slice a29 m29 c29),(200,.bool false),(199,.bool false),(198,.bool true),(12,.slice (some ⟨gd,0,none⟩) n cap),(27,.bool true),(29,.slice a29 m29 c29),(197,.bool true)] a)=>?_)
 clear e201
 refine lw_val (v:=.slice (some ⟨gd,0,none⟩) n cap) hA rfl ((hA.wanted (x:=false) rfl rfl rfl rfl).trans rfl) (by decide) (by kernel_rfl) rfl (by decide) (fun d=>run_move rfl (hA.get rfl)) (fun a (hA:Lvs 211 [(203,.slice (some ⟨gd,0,none⟩) n cap),(202,.int .i64 m29),(201,.slice a29 m29 c29),(200,.bool false),(199,.bool false),(198,.bool true),(12,.slice (some ⟨gd,0,none⟩) n cap),(27,.bool true),(29,.slice a29 m29 c29),(197,.bool true)] a)=>?_)
 obtain ⟨o,ho,hop,hd,hg⟩:∃ o,(cnOps 43)[22]?=some o∧o.op=.indexAddr 64 (.tmp 203) (.const (.int .i64 0))∧o.dst=some 204∧o.guard=some (18,false):=⟨_,rfl,rfl,rfl,rfl⟩
 have e203:=hA.get (t:=203) rfl
 refine lw_val (v:=.pointer (some ⟨gd,0,none⟩)) hA ho ((hA.wanted (x:=false) hg rfl rfl rfl).trans rfl) (by decide) (by rw [hop];rfl) hd (by decide) (fun d=>by unfold execOp;simp only [hop,e203];go_simp) (fun a (hA:Lvs 211 [(204,.pointer (some ⟨gd,0,none⟩)),(203,.slice (some ⟨gd,0,none⟩) n cap),(202,.int .i64 m29),(201,.slice a29 m29 c29),(200,.bool false),(199,.bool false),(198,.bool true),(12,.slice (some ⟨gd,0,none⟩) n cap),(27,.bool true),(29,.slice a29 m29 c29),(197,.bool true)] a)=>?_)
 clear ho hop hd hg e203
 obtain ⟨o,ho,hop,hd,hg⟩:∃ o,(cnOps 43)[23]?=some o∧o.op=.load 65 (.tmp 204)∧o.dst=some 205∧o.guard=some (18,false):=⟨_,rfl,rfl,rfl,rfl⟩
 have e204:=hA.get (t:=204) rfl
 refine lw_val (v:=.slice a0 m0 c0) hA ho ((hA.wanted (x:=false) hg rfl rfl rfl).trans rfl) (by decide) (by rw [hop];rfl) hd (by decide) (fun d=>by have z0:=c1 d;clear c1;unfold execOp;simp only [hop,e204];go_simp;try rfl) (fun a (hA:Lvs 211 [(205,.slice a0 m0 c0),(204,.pointer (some ⟨gd,0,none⟩)),(203,.slice (some ⟨gd,0,none⟩) n cap),(202,.int .i64 m29),(201,.slice a29 m29 c29),(200,.bool false),(199,.bool false),(198,.bool true),(12,.slice (some ⟨gd,0,none⟩) n cap),(27,.bool true),(29,.slice a29 m29 c29),(197,.bool true)] a)=>?_)
 clear ho hop hd hg e204
 replace hA:Lvs 211 [(197,.bool true),(200,.bool false),(202,.int .i64 m29),(205,.slice a0 m0 c0)] a:=hA.sub (fun p hp=>by
  simp only [List.mem_cons,List.not_mem_nil,or_false] at hp
  rcases hp with rfl|rfl|rfl|rfl<;>rfl)
 have e205:=hA.get (t:=205) rfl
 refine lw_val (v:=.int .i64 m0) hA rfl ((hA.wanted (x:=false) rfl rfl rfl rfl).trans rfl) (by decide) (by kernel_rfl) rfl (by decide) (fun d=>run_len rfl Tryd.underlying65 e205) (fun a (hA:Lvs 211 [(206,.int .i64 m0),(197,.bool true),(200,.bool false),(202,.int .i64 m29),(205,.slice a0 m0 c0)] a)=>?_)
 clear e205
 obtain ⟨o,ho,hop,hd,hg⟩:∃ o,(cnOps 43)[25]?=some o∧o.op=.binOp .add 3 (.tmp 206) (.const (.int .i64 1)) 3∧o.dst=some 207∧o.guard=some (18,false):=⟨_,rfl,rfl,rfl,rfl⟩
 have e206:=hA.get (t:=206) rfl
 refine lw_val (v:=.int .i64 ((m0+1:Nat):Int)) hA ho ((hA.wanted (x:=false) hg rfl rfl rfl).trans rfl) (by decide) (by rw [hop];rfl) hd (by decide) (fun d=>by have z0:IntKind.i64.wrap ((m0:Int)+1)=((m0+1:Nat):Int):=(by rw [IntKind.wrap_i64];omega);unfold execOp;simp only [hop,e206];go_simp) (fun a (hA:Lvs 211 [(207,.int .i64 ((m0+1:Nat):Int)),(206,.int .i64 m0),(197,.bool true),(200,.bool false),(202,.int .i64 m29),(205,.slice a0 m0 c0)] a)=>?_)
 clear ho hop hd hg e206
 subst hlen
 obtain ⟨o,ho,hop,hd,hg⟩:∃ o,(cnOps 43)[26]?=some o∧o.op=.binOp .eql 3 (.tmp 202) (.tmp 207) 3∧o.dst=some 208∧o.guard=some (18,false):=⟨_,rfl,rfl,rfl,rfl⟩
 have e202:=hA.get (t:=202) rfl
 have e207:=hA.get (t:=207) rfl
 refine lw_val (v:=.bool true) hA ho ((hA.wanted (x:=false) hg rfl rfl rfl).trans rfl) (by decide) (by rw [hop];rfl) hd (by decide) (fun d=>by unfold execOp;simp only [hop,e202,e207];go_simp) (fun a (hA:Lvs 211 [(208,.bool true),(207,.int .i64 ((m0+1:Nat):Int)),(206,.int .i64 m0),(197,.bool true),(200,.bool false),(202,.int .i64 (m0+1:Nat)),(205,.slice a0 m0 c0)] a)=>?_)
 clear ho hop hd hg e202 e207
 replace hA:Lvs 211 [(197,.bool true),(200,.bool false),(208,.bool true)] a:=hA.sub (fun p hp=>by
  simp only [List.mem_cons,List.not_mem_nil,or_false] at hp
  rcases hp with rfl|rfl|rfl<;>rfl)
 obtain ⟨o,ho,hop,hd,hg⟩:∃ o,(cnOps 43)[27]?=some o∧o.op=.pick (.tmp 200) (.const (.bool true)) (.tmp 208)∧o.dst=some 209∧o.guard=some (15,true):=⟨_,rfl,rfl,rfl,rfl⟩
 have e200:=hA.get (t:=200) rfl
 have e208:=hA.get (t:=208) rfl
 refine lw_val (v:=.bool true) hA ho ((hA.wanted (x:=true) hg rfl rfl rfl).trans rfl) (by decide) (by rw [hop];rfl) hd (by decide) (fun d=>by unfold execOp;simp only [hop,e200,e208];go_simp) (fun a (hA:Lvs 211 [(209,.bool true),(197,.bool true),(200,.bool false),(208,.bool true)] a)=>?_)
 clear ho hop hd hg e200 e208
 obtain ⟨o,ho,hop,hd,hg⟩:∃ o,(cnOps 43)[28]?=some o∧o.op=.pick (.tmp 197) (.tmp 209) (.const (.bool false))∧o.dst=some 210∧o.guard=none:=⟨_,rfl,rfl,rfl,rfl⟩
 have e197:=hA.get (t:=197) rfl
 have e209:=hA.get (t:=209) rfl
 refine lw_val (v:=.bool true) hA ho (wanted_none hg) (by decide) (by rw [hop];rfl) hd (by decide) (fun d=>by unfold execOp;simp only [hop,e197,e209];go_simp) (fun a (hA:Lvs 211 [(210,.bool true),(209,.bool true),(197,.bool true),(200,.bool false),(208,.bool true)] a)=>?_)
 clear ho hop hd hg e197 e209
 refine lw_val (v:=.bool true) hA rfl (wanted_none rfl) (by decide) (by kernel_rfl) rfl (by decide) (fun d=>run_assign rfl (hA.get rfl)) (fun a (hA:Lvs 211 [(4,.bool true),(210,.bool true),(209,.bool true),(197,.bool true),(200,.bool false),(208,.bool true)] a)=>?_)
 refine Br.liv_region_end ?_
 replace hA:Lvs 211 [(4,.bool true)] a:=hA.sub (fun p hp=>by
  simp only [List.mem_cons,List.not_mem_nil,or_false] at hp
  rcases hp with rfl<;>rfl)
 exact hn a hA
end Go.Proofs.YtcgabodkegcpgaaDoor
