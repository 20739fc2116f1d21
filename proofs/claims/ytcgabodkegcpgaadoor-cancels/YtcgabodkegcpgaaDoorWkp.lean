/- Cancels: more of its pieces. No statement of the program is proved here. -/
import Derived.Test.YtcgabodkegcpgaaDoorWkn
namespace Go.Proofs.YtcgabodkegcpgaaDoor
open Go.Conc Go.RowKit
open Br (X OpD KO SO SP sfO Lk Fit Must DL Liv Clear)
set_option linter.unusedVariables false
set_option linter.unusedSimpArgs false
set_option maxHeartbeats 4000000
set_option maxRecDepth 100000 in
theorem cn_20 {l:List OpD}{w:World}{Stop:Goroutine→World→Prop}{vb vc vk vl vo:Value}{a:Act}(hA:Lvs 211 [(2,vc),(5,vo),(6,vk),(8,vl),(11,vb)] a)(k:List Item)(cs:List Frame)
  (hn:∀ a',Lvs 211 [(2,vc),(5,vo),(6,vk),(8,vl),(11,vb),(12,.slice none 0 0)] a'→Liv Tryd.prog true true (sfO l) Stop (G ((base 6).at a' (k)) cs) w) :
  Liv Tryd.prog true true (sfO l) Stop (G ((base 6).at a (.code (rg 20)::k)) cs) w:=by
 refine lw_region (n:=20) (m:=0) (il:=[0]) (by kernel_rfl) ?_
 refine lw_val (v:=.slice none 0 0) hA rfl (wanted_none rfl) (by decide) (by kernel_rfl) rfl (by decide) (fun d=>run_assign rfl rfl) (fun a (hA:Lvs 211 [(12,.slice none 0 0),(2,vc),(5,vo),(6,vk),(8,vl),(11,vb)] a)=>?_)
 refine Br.liv_region_end ?_
 replace hA:Lvs 211 [(2,vc),(5,vo),(6,vk),(8,vl),(11,vb),(12,.slice none 0 0)] a:=hA.sub (fun p hp=>by
  simp only [List.mem_cons,List.not_mem_nil,or_false] at hp
  rcases hp with rfl|rfl|rfl|rfl|rfl|rfl<;>rfl)
 exact hn a hA
set_option maxRecDepth 100000 in
theorem cn_21 {l:List OpD}{w:World}{Stop:Goroutine→World→Prop}{vb vc vd vk vl vo:Value}{a:Act}(hA:Lvs 211 [(2,vc),(5,vo),(6,vk),(8,vl),(11,vb),(12,vd)] a)(k:List Item)(cs:List Frame)
  (hn:∀ a',Lvs 211 [(2,vc),(5,vo),(6,vk),(8,vl),(11,vb),(12,vd),(13,.int .i64 (0:Nat))] a'→Liv Tryd.prog true true (sfO l) Stop (G ((base 6).at a' (k)) cs) w) :
  Liv Tryd.prog true true (sfO l) Stop (G ((base 6).at a (.code (rg 21)::k)) cs) w:=by
 refine lw_region (n:=21) (m:=0) (il:=[0]) (by kernel_rfl) ?_
 refine lw_val (v:=.int .i64 (0:Nat)) hA rfl (wanted_none rfl) (by decide) (by kernel_rfl) rfl (by decide) (fun d=>run_assign rfl rfl) (fun a (hA:Lvs 211 [(13,.int .i64 (0:Nat)),(2,vc),(5,vo),(6,vk),(8,vl),(11,vb),(12,vd)] a)=>?_)
 refine Br.liv_region_end ?_
 replace hA:Lvs 211 [(2,vc),(5,vo),(6,vk),(8,vl),(11,vb),(12,vd),(13,.int .i64 (0:Nat))] a:=hA.sub (fun p hp=>by
  simp only [List.mem_cons,List.not_mem_nil,or_false] at hp
  rcases hp with rfl|rfl|rfl|rfl|rfl|rfl|rfl<;>rfl)
 exact hn a hA
set_option maxRecDepth 100000 in
theorem cn_30 {l:List OpD}{w:World}{Stop:Goroutine→World→Prop}{vb vc vd vk vl vo vs:Value}{a:Act}(hA:Lvs 211 [(2,vc),(5,vo),(6,vk),(8,vl),(11,vb),(12,vd),(17,vs)] a)(k:List Item)(cs:List Frame)
  (hn:∀ a',Lvs 211 [(2,vc),(5,vo),(6,vk),(8,vl),(11,vb),(12,vd),(17,vs),(18,.int .i64 (0:Nat))] a'→Liv Tryd.prog true true (sfO l) Stop (G ((base 6).at a' (k)) cs) w) :
  Liv Tryd.prog true true (sfO l) Stop (G ((base 6).at a (.code (rg 30)::k)) cs) w:=by
 refine lw_region (n:=30) (m:=0) (il:=[0]) (by kernel_rfl) ?_
 refine lw_val (v:=.int .i64 (0:Nat)) hA rfl (wanted_none rfl) (by decide) (by kernel_rfl) rfl (by decide) (fun d=>run_assign rfl rfl) (fun a (hA:Lvs 211 [(18,.int .i64 (0:Nat)),(2,vc),(5,vo),(6,vk),(8,vl),(11,vb),(12,vd),(17,vs)] a)=>?_)
 refine Br.liv_region_end ?_
 replace hA:Lvs 211 [(2,vc),(5,vo),(6,vk),(8,vl),(11,vb),(12,vd),(17,vs),(18,.int .i64 (0:Nat))] a:=hA.sub (fun p hp=>by
  simp only [List.mem_cons,List.not_mem_nil,or_false] at hp
  rcases hp with rfl|rfl|rfl|rfl|rfl|rfl|rfl|rfl<;>rfl)
 exact hn a hA
set_option maxRecDepth 100000 in
theorem cn_27 {l:List OpD}{w:World}{Stop:Goroutine→World→Prop}{vb vc vd vk vl vo:Value}{a:Act}(hA:Lvs 211 [(2,vc),(5,vo),(6,vk),(8,vl),(11,vb),(12,vd)] a)(k:List Item)(cs:List Frame)
  (hn:∀ a',Lvs 211 [(2,vc),(5,vo),(6,vk),(8,vl),(11,vb),(12,vd)] a'→∀ d,Stop (G (Frame.enter Tryd.prog 20 #[vl] .normal) ((base 6).at a' (.inRegion (cnOps 27) [1] :: k)::cs)) (w.at d)) :
  Liv Tryd.prog true true (sfO l) Stop (G ((base 6).at a (.code (rg 27)::k)) cs) w:=by
 refine lw_region (n:=27) (m:=0) (il:=[0,1]) (by kernel_rfl) ?_
 refine lw_val (v:=vl) hA rfl (wanted_none rfl) (by decide) (by kernel_rfl) rfl (by decide) (fun d=>run_move rfl (hA.get rfl)) (fun a (hA:Lvs 211 [(110,vl),(2,vc),(5,vo),(6,vk),(8,vl),(11,vb),(12,vd)] a)=>?_)
 have e110:=hA.get (t:=110) rfl
 exact lv_enter rfl rfl (by decide) rfl Tryd.func20 rfl rfl (by simp only [List.map_toArray,List.map_cons,List.map_nil,e110]) (hn a (hA.sub (fun p hp=>by
  simp only [List.mem_cons,List.not_mem_nil,or_false] at hp
  rcases hp with rfl|rfl|rfl|rfl|rfl|rfl<;>rfl)))
set_option maxRecDepth 100000 in
theorem cn_42 {l:List OpD}{w:World}{Stop:Goroutine→World→Prop}{vd vl vo vs vt vw vx vy vz:Value}{a:Act}(hA:Lvs 211 [(5,vo),(8,vl),(12,vd),(17,vs),(26,vt),(27,vw),(28,vx),(29,vy),(30,vz)] a)(k:List Item)(cs:List Frame)
  (hn:∀ a',Lvs 211 [(5,vo),(8,vl),(12,vd),(17,vs),(26,vt),(27,vw),(28,vx),(29,vy),(30,vz)] a'→∀ d,Stop (G (Frame.enter Tryd.prog 20 #[vl] .normal) ((base 6).at a' (.inRegion (cnOps 42) [1] :: k)::cs)) (w.at d)) :
  Liv Tryd.prog true true (sfO l) Stop (G ((base 6).at a (.code (rg 42)::k)) cs) w:=by
 refine lw_region (n:=42) (m:=0) (il:=[0,1]) (by kernel_rfl) ?_
 refine lw_val (v:=vl) hA rfl (wanted_none rfl) (by decide) (by kernel_rfl) rfl (by decide) (fun d=>run_move rfl (hA.get rfl)) (fun a (hA:Lvs 211 [(180,vl),(5,vo),(8,vl),(12,vd),(17,vs),(26,vt),(27,vw),(28,vx),(29,vy),(30,vz)] a)=>?_)
 have e180:=hA.get (t:=180) rfl
 exact lv_enter rfl rfl (by decide) rfl Tryd.func20 rfl rfl (by simp only [List.map_toArray,List.map_cons,List.map_nil,e180]) (hn a (hA.sub (fun p hp=>by
  simp only [List.mem_cons,List.not_mem_nil,or_false] at hp
  rcases hp with rfl|rfl|rfl|rfl|rfl|rfl|rfl|rfl|rfl<;>rfl)))
set_option maxRecDepth 100000 in
theorem cn_33 {l:List OpD}{w:World}{Stop:Goroutine→World→Prop}{vb vc vd vk vl vo vs:Value}{p:Nat}{a:Act}(hA:Lvs 211 [(2,vc),(5,vo),(6,vk),(8,vl),(11,vb),(12,vd),(17,vs),(18,.int .i64 p)] a)(k:List Item)(cs:List Frame)
  (hn:∀ a',Lvs 211 [(2,vc),(5,vo),(6,vk),(8,vl),(11,vb),(12,vd),(17,vs),(18,.int .i64 p)] a'→∀ d,Stop (G (Frame.enter Tryd.prog 18 #[vl,.int .i64 p] .normal) ((base 6).at a' (.inRegion (cnOps 33) [2,3,4,5,6,7] :: k)::cs)) (w.at d)) :
  Liv Tryd.prog true true (sfO l) Stop (G ((base 6).at a (.code (rg 33)::k)) cs) w:=by
 refine lw_region (n:=33) (m:=0) (il:=[0,1,2,3,4,5,6,7]) (by kernel_rfl) ?_
 refine lw_val (v:=vl) hA rfl (wanted_none rfl) (by decide) (by kernel_rfl) rfl (by decide) (fun d=>run_move rfl (hA.get rfl)) (fun a (hA:Lvs 211 [(124,vl),(2,vc),(5,vo),(6,vk),(8,vl),(11,vb),(12,vd),(17,vs),(18,.int .i64 p)] a)=>?_)
 refine lw_val (v:=.int .i64 p) hA rfl (wanted_none rfl) (by decide) (by kernel_rfl) rfl (by decide) (fun d=>run_move rfl (hA.get rfl)) (fun a (hA:Lvs 211 [(125,.int .i64 p),(124,vl),(2,vc),(5,vo),(6,vk),(8,vl),(11,vb),(12,vd),(17,vs),(18,.int .i64 p)] a)=>?_)
 have e124:=hA.get (t:=124) rfl
 have e125:=hA.get (t:=125) rfl
 exact lv_enter rfl rfl (by decide) rfl Tryd.func18 rfl rfl (by simp only [List.map_toArray,List.map_cons,List.map_nil,e124,e125]) (hn a (hA.sub (fun p hp=>by
  simp only [List.mem_cons,List.not_mem_nil,or_false] at hp
  rcases hp with rfl|rfl|rfl|rfl|rfl|rfl|rfl|rfl<;>rfl)))
set_option maxRecDepth 100000 in
theorem cn_36 {l:List OpD}{w:World}{Stop:Goroutine→World→Prop}{va vb vc vd ve vf vg vh vk vl vo vs:Value}{p:Nat}{a:Act}(hA:Lvs 211 [(2,vc),(5,vo),(6,vk),(8,vl),(11,vb),(12,vd),(17,vs),(18,.int .i64 p),(19,va),(20,ve),(21,vf),(22,vg),(23,vh)] a)(k:List Item)(cs:List Frame)
  (hn:∀ a',Lvs 211 [(2,vc),(5,vo),(6,vk),(8,vl),(11,vb),(12,vd),(17,vs),(18,.int .i64 p),(19,va),(20,ve),(21,vf),(22,vg),(23,vh)] a'→∀ d,Stop (G (Frame.enter Tryd.prog 17 #[vl,.int .i64 p,.agg #[.int .i64 2,.int .i64 0,.int .i64 0]] .normal) ((base 6).at a' (.inRegion (cnOps 36) [3,4] :: k)::cs)) (w.at d)) :
  Liv Tryd.prog true true (sfO l) Stop (G ((base 6).at a (.code (rg 36)::k)) cs) w:=by
 refine lw_region (n:=36) (m:=0) (il:=[0,1,2,3,4]) (by kernel_rfl) ?_
 refine lw_val (v:=vl) hA rfl (wanted_none rfl) (by decide) (by kernel_rfl) rfl (by decide) (fun d=>run_move rfl (hA.get rfl)) (fun a (hA:Lvs 211 [(141,vl),(2,vc),(5,vo),(6,vk),(8,vl),(11,vb),(12,vd),(17,vs),(18,.int .i64 p),(19,va),(20,ve),(21,vf),(22,vg),(23,vh)] a)=>?_)
 refine lw_val (v:=.int .i64 p) hA rfl (wanted_none rfl) (by decide) (by kernel_rfl) rfl (by decide) (fun d=>run_move rfl (hA.get rfl)) (fun a (hA:Lvs 211 [(142,.int .i64 p),(141,vl),(2,vc),(5,vo),(6,vk),(8,vl),(11,vb),(12,vd),(17,vs),(18,.int .i64 p),(19,va),(20,ve),(21,vf),(22,vg),(23,vh)] a)=>?_)
 obtain ⟨o,ho,hop,hd,hg⟩:∃ o,(cnOps 36)[2]?=some o∧o.op=.build 38 #[(0,.const (.int .i64 2))]∧o.dst=some 143∧o.guard=none:=⟨_,rfl,rfl,rfl,rfl⟩
 refine lw_val (v:=.agg #[.int .i64 2,.int .i64 0,.int .i64 0]) hA ho (wanted_none hg) (by decide) (by rw [hop];rfl) hd (by decide) (fun d=>by unfold execOp;simp only [hop];kernel_rfl) (fun a (hA:Lvs 211 [(143,.agg #[.int .i64 2,.int .i64 0,.int .i64 0]),(142,.int .i64 p),(141,vl),(2,vc),(5,vo),(6,vk),(8,vl),(11,vb),(12,vd),(17,vs),(18,.int .i64 p),(19,va),(20,ve),(21,vf),(22,vg),(23,vh)] a)=>?_)
 clear ho hop hd hg
 have e141:=hA.get (t:=141) rfl
 have e142:=hA.get (t:=142) rfl
 have e143:=hA.get (t:=143) rfl
 exact lv_enter rfl rfl (by decide) rfl Tryd.func17 rfl rfl (by simp only [List.map_toArray,List.map_cons,List.map_nil,e141,e142,e143]) (hn a (hA.sub (fun p hp=>by
  simp only [List.mem_cons,List.not_mem_nil,or_false] at hp
  rcases hp with rfl|rfl|rfl|rfl|rfl|rfl|rfl|rfl|rfl|rfl|rfl|rfl|rfl<;>rfl)))
set_option maxRecDepth 100000 in
theorem cn_40 {l:List OpD}{w:World}{Stop:Goroutine→World→Prop}{vd vl vo vs vt:Value}{a:Act}(hA:Lvs 211 [(5,vo),(8,vl),(12,vd),(17,vs),(26,vt)] a)(k:List Item)(cs:List Frame)
  (hn:∀ a',Lvs 211 [(5,vo),(8,vl),(12,vd),(17,vs),(26,vt)] a'→∀ d,Stop (G (Frame.enter Tryd.prog 18 #[vl,.int .i64 (0:Nat)] .normal) ((base 6).at a' (.inRegion (cnOps 40) [1,2,3,4,5,6] :: k)::cs)) (w.at d)) :
  Liv Tryd.prog true true (sfO l) Stop (G ((base 6).at a (.code (rg 40)::k)) cs) w:=by
 refine lw_region (n:=40) (m:=0) (il:=[0,1,2,3,4,5,6]) (by kernel_rfl) ?_
 refine lw_val (v:=vl) hA rfl (wanted_none rfl) (by decide) (by kernel_rfl) rfl (by decide) (fun d=>run_move rfl (hA.get rfl)) (fun a (hA:Lvs 211 [(171,vl),(5,vo),(8,vl),(12,vd),(17,vs),(26,vt)] a)=>?_)
 have e171:=hA.get (t:=171) rfl
 exact lv_enter rfl rfl (by decide) rfl Tryd.func18 rfl rfl (by simp only [List.map_toArray,List.map_cons,List.map_nil,e171];rfl) (hn a (hA.sub (fun p hp=>by
  simp only [List.mem_cons,List.not_mem_nil,or_false] at hp
  rcases hp with rfl|rfl|rfl|rfl|rfl<;>rfl)))
set_option maxRecDepth 100000 in
theorem cn_33b {l:List OpD}{w:World}{Stop:Goroutine→World→Prop}{vb vc vd vk vl vo vs:Value}{p:Nat}{va ve:Value}{a:Act}(hA:Lvs 211 [(2,vc),(5,vo),(6,vk),(8,vl),(11,vb),(12,vd),(17,vs),(18,.int .i64 p),(126,.tuple #[va,ve])] a)(k:List Item)(cs:List Frame)
  (hn:∀ a',Lvs 211 [(2,vc),(5,vo),(6,vk),(8,vl),(11,vb),(12,vd),(17,vs),(18,.int .i64 p),(19,va),(20,ve)] a'→Liv Tryd.prog true true (sfO l) Stop (G ((base 6).at a' (k)) cs) w) :
  Liv Tryd.prog true true (sfO l) Stop (G ((base 6).at a (.inRegion (cnOps 33) [3,4,5,6,7] :: k)) cs) w:=by
 refine lw_val (v:=.tuple #[va,ve]) hA rfl (wanted_none rfl) (by decide) (by kernel_rfl) rfl (by decide) (fun d=>run_move rfl (hA.get rfl)) (fun a (hA:Lvs 211 [(123,.tuple #[va,ve]),(2,vc),(5,vo),(6,vk),(8,vl),(11,vb),(12,vd),(17,vs),(18,.int .i64 p),(126,.tuple #[va,ve])] a)=>?_)
 obtain ⟨o,ho,hop,hd,hg⟩:∃ o,(cnOps 33)[4]?=some o∧o.op=.extract (.tmp 123) 0∧o.dst=some 127∧o.guard=none:=⟨_,rfl,rfl,rfl,rfl⟩
 have e123:=hA.get (t:=123) rfl
 refine lw_val (v:=va) hA ho (wanted_none hg) (by decide) (by rw [hop];rfl) hd (by decide) (fun d=>by unfold execOp;simp only [hop,e123];rfl) (fun a (hA:Lvs 211 [(127,va),(123,.tuple #[va,ve]),(2,vc),(5,vo),(6,vk),(8,vl),(11,vb),(12,vd),(17,vs),(18,.int .i64 p),(126,.tuple #[va,ve])] a)=>?_)
 clear ho hop hd hg e123
 obtain ⟨o,ho,hop,hd,hg⟩:∃ o,(cnOps 33)[5]?=some o∧o.op=.extract (.tmp 123) 1∧o.dst=some 128∧o.guard=none:=⟨_,rfl,rfl,rfl,rfl⟩
 have e123:=hA.get (t:=123) rfl
 refine lw_val (v:=ve) hA ho (wanted_none hg) (by decide) (by rw [hop];rfl) hd (by decide) (fun d=>by unfold execOp;simp only [hop,e123];rfl) (fun a (hA:Lvs 211 [(128,ve),(127,va),(123,.tuple #[va,ve]),(2,vc),(5,vo),(6,vk),(8,vl),(11,vb),(12,vd),(17,vs),(18,.int .i64 p),(126,.tuple #[va,ve])] a)=>?_)
 clear ho hop hd hg e123
 refine lw_val (v:=va) hA rfl (wanted_none rfl) (by decide) (by kernel_rfl) rfl (by decide) (fun d=>run_assign rfl (hA.get rfl)) (fun a (hA:Lvs 211 [(19,va),(128,ve),(127,va),(123,.tuple #[va,ve]),(2,vc),(5,vo),(6,vk),(8,vl),(11,vb),(12,vd),(17,vs),(18,.int .i64 p),(126,.tuple #[va,ve])] a)=>?_)
 refine lw_val (v:=ve) hA rfl (wanted_none rfl) (by decide) (by kernel_rfl) rfl (by decide) (fun d=>run_assign rfl (hA.get rfl)) (fun a (hA:Lvs 211 [(20,ve),(19,va),(128,ve),(127,va),(123,.tuple #[va,ve]),(2,vc),(5,vo),(6,vk),(8,vl),(11,vb),(12,vd),(17,vs),(18,.int .i64 p),(126,.tuple #[va,ve])] a)=>?_)
 refine Br.liv_region_end ?_
 replace hA:Lvs 211 [(2,vc),(5,vo),(6,vk),(8,vl),(11,vb),(12,vd),(17,vs),(18,.int .i64 p),(19,va),(20,ve)] a:=hA.sub (fun p hp=>by
  simp only [List.mem_cons,List.not_mem_nil,or_false] at hp
  rcases hp with rfl|rfl|rfl|rfl|rfl|rfl|rfl|rfl|rfl|rfl<;>rfl)
 exact hn a hA
set_option maxRecDepth 100000 in
theorem cn_40b {l:List OpD}{w:World}{Stop:Goroutine→World→Prop}{vd vl vo vs vt:Value}{va ve:Value}{a:Act}(hA:Lvs 211 [(5,vo),(8,vl),(12,vd),(17,vs),(26,vt),(172,.tuple #[va,ve])] a)(k:List Item)(cs:List Frame)
  (hn:∀ a',Lvs 211 [(5,vo),(8,vl),(12,vd),(17,vs),(26,vt),(27,va),(28,ve)] a'→Liv Tryd.prog true true (sfO l) Stop (G ((base 6).at a' (k)) cs) w) :
  Liv Tryd.prog true true (sfO l) Stop (G ((base 6).at a (.inRegion (cnOps 40) [2,3,4,5,6] :: k)) cs) w:=by
 refine lw_val (v:=.tuple #[va,ve]) hA rfl (wanted_none rfl) (by decide) (by kernel_rfl) rfl (by decide) (fun d=>run_move rfl (hA.get rfl)) (fun a (hA:Lvs 211 [(170,.tuple #[va,ve]),(5,vo),(8,vl),(12,vd),(17,vs),(26,vt),(172,.tuple #[va,ve])] a)=>?_)
 obtain ⟨o,ho,hop,hd,hg⟩:∃ o,(cnOps 40)[3]?=some o∧o.op=.extract (.tmp 170) 0∧o.dst=some 173∧o.guard=none:=⟨_,rfl,rfl,rfl,rfl⟩
 have e170:=hA.get (t:=170) rfl
 refine lw_val (v:=va) hA ho (wanted_none hg) (by decide) (by rw [hop];rfl) hd (by decide) (fun d=>by unfold execOp;simp only [hop,e170];rfl) (fun a (hA:Lvs 211 [(173,va),(170,.tuple #[va,ve]),(5,vo),(8,vl),(12,vd),(17,vs),(26,vt),(172,.tuple #[va,ve])] a)=>?_)
 clear ho hop hd hg e170
 obtain ⟨o,ho,hop,hd,hg⟩:∃ o,(cnOps 40)[4]?=some o∧o.op=.extract (.tmp 170) 1∧o.dst=some 174∧o.guard=none:=⟨_,rfl,rfl,rfl,rfl⟩
 have e170:=hA.get (t:=170) rfl
 refine lw_val (v:=ve) hA ho (wanted_none hg) (by decide) (by rw [hop];rfl) hd (by decide) (fun d=>by unfold execOp;simp only [hop,e170];rfl) (fun a (hA:Lvs 211 [(174,ve),(173,va),(170,.tuple #[va,ve]),(5,vo),(8,vl),(12,vd),(17,vs),(26,vt),(172,.tuple #[va,ve])] a)=>?_)
 clear ho hop hd hg e170
 refine lw_val (v:=va) hA rfl (wanted_none rfl) (by decide) (by kernel_rfl) rfl (by decide) (fun d=>run_assign rfl (hA.get rfl)) (fun a (hA:Lvs 211 [(27,va),(174,ve),(173,va),(170,.tuple #[va,ve]),(5,vo),(8,vl),(12,vd),(17,vs),(26,vt),(172,.tuple #[va,ve])] a)=>?_)
 refine lw_val (v:=ve) hA rfl (wanted_none rfl) (by decide) (by kernel_rfl) rfl (by decide) (fun d=>run_assign rfl (hA.get rfl)) (fun a (hA:Lvs 211 [(28,ve),(27,va),(174,ve),(173,va),(170,.tuple #[va,ve]),(5,vo),(8,vl),(12,vd),(17,vs),(26,vt),(172,.tuple #[va,ve])] a)=>?_)
 refine Br.liv_region_end ?_
 replace hA:Lvs 211 [(5,vo),(8,vl),(12,vd),(17,vs),(26,vt),(27,va),(28,ve)] a:=hA.sub (fun p hp=>by
  simp only [List.mem_cons,List.not_mem_nil,or_false] at hp
  rcases hp with rfl|rfl|rfl|rfl|rfl|rfl|rfl<;>rfl)
 exact hn a hA
set_option maxRecDepth 100000 in
theorem cn_36b {l:List OpD}{w:World}{Stop:Goroutine→World→Prop}{va vb vc vd ve vf vg vh vi vk vl vo vs:Value}{p:Nat}{a:Act}(hA:Lvs 211 [(2,vc),(5,vo),(6,vk),(8,vl),(11,vb),(12,vd),(17,vs),(18,.int .i64 p),(19,va),(20,ve),(21,vf),(22,vg),(23,vh),(144,vi)] a)(k:List Item)(cs:List Frame)
  (hn:∀ a',Lvs 211 [(2,vc),(5,vo),(6,vk),(8,vl),(11,vb),(12,vd),(17,vs),(18,.int .i64 p),(19,va),(20,ve),(21,vf),(22,vg),(23,vh),(24,vi)] a'→Liv Tryd.prog true true (sfO l) Stop (G ((base 6).at a' (k)) cs) w) :
  Liv Tryd.prog true true (sfO l) Stop (G ((base 6).at a (.inRegion (cnOps 36) [4] :: k)) cs) w:=by
 refine lw_val (v:=vi) hA rfl (wanted_none rfl) (by decide) (by kernel_rfl) rfl (by decide) (fun d=>run_assign rfl (hA.get rfl)) (fun a (hA:Lvs 211 [(24,vi),(2,vc),(5,vo),(6,vk),(8,vl),(11,vb),(12,vd),(17,vs),(18,.int .i64 p),(19,va),(20,ve),(21,vf),(22,vg),(23,vh),(144,vi)] a)=>?_)
 refine Br.liv_region_end ?_
 replace hA:Lvs 211 [(2,vc),(5,vo),(6,vk),(8,vl),(11,vb),(12,vd),(17,vs),(18,.int .i64 p),(19,va),(20,ve),(21,vf),(22,vg),(23,vh),(24,vi)] a:=hA.sub (fun p hp=>by
  simp only [List.mem_cons,List.not_mem_nil,or_false] at hp
  rcases hp with rfl|rfl|rfl|rfl|rfl|rfl|rfl|rfl|rfl|rfl|rfl|rfl|rfl|rfl<;>rfl)
 exact hn a hA
set_option maxRecDepth 100000 in
theorem cn_37 {l:List OpD}{w:World}{Stop:Goroutine→World→Prop}{vb vc vd vk vl vs:Value}{p:Nat}{a:Act}(hA:Lvs 211 [(2,vc),(5,.bool true),(6,vk),(8,vl),(11,vb),(12,vd),(17,vs),(18,.int .i64 p),(19,.bool false),(20,.int .i64 11),(22,.int .i64 0),(23,.bool true),(24,.int .i64 0)] a)(k:List Item)(cs:List Frame)
  (hn:∀ a',Lvs 211 [(2,vc),(5,.bool true),(6,vk),(8,vl),(11,vb),(12,vd),(17,vs),(18,.int .i64 p)] a'→Liv Tryd.prog true true (sfO l) Stop (G ((base 6).at a' (k)) cs) w) :
  Liv Tryd.prog true true (sfO l) Stop (G ((base 6).at a (.code (rg 37)::k)) cs) w:=by
 refine lw_region (n:=37) (m:=0) (il:=[0,1,2,3,4,5,6,7,8,9,10,11,12,13,14,15,16,17,18,19,20]) (by kernel_rfl) ?_
 replace hA:Lvs 211 [(2,vc),(5,.bool true),(6,vk),(8,vl),(11,vb),(12,vd),(17,vs),(18,.int .i64 p),(19,.bool false),(20,.int .i64 11),(22,.int .i64 0),(23,.bool true),(24,.int .i64 0)] a:=hA.sub (fun p hp=>by
  simp only [List.mem_cons,List.not_mem_nil,or_false] at hp
  rcases hp with rfl|rfl|rfl|rfl|rfl|rfl|rfl|rfl|rfl|rfl|rfl|rfl|rfl<;>rfl)
 refine lw_val (v:=.bool true) hA rfl (wanted_none rfl) (by decide) (by kernel_rfl) rfl (by decide) (fun d=>run_move rfl (hA.get rfl)) (fun a (hA:Lvs 211 [(145,.bool true),(2,vc),(5,.bool true),(6,vk),(8,vl),(11,vb),(12,vd),(17,vs),(18,.int .i64 p),(19,.bool false),(20,.int .i64 11),(22,.int .i64 0),(23,.bool true),(24,.int .i64 0)] a)=>?_)
 refine lw_val (v:=.bool true) hA rfl (wanted_none rfl) (by decide) (by kernel_rfl) rfl (by decide) (fun d=>run_move rfl (hA.get rfl)) (fun a (hA:Lvs 211 [(146,.bool true),(145,.bool true),(2,vc),(5,.bool true),(6,vk),(8,vl),(11,vb),(12,vd),(17,vs),(18,.int .i64 p),(19,.bool false),(20,.int .i64 11),(22,.int .i64 0),(23,.bool true),(24,.int .i64 0)] a)=>?_)
 refine lw_val (v:=.bool false) hA rfl ((hA.wanted (x:=true) rfl rfl rfl rfl).trans rfl) (by decide) (by kernel_rfl) rfl (by decide) (fun d=>run_move rfl (hA.get rfl)) (fun a (hA:Lvs 211 [(147,.bool false),(146,.bool true),(145,.bool true),(2,vc),(5,.bool true),(6,vk),(8,vl),(11,vb),(12,vd),(17,vs),(18,.int .i64 p),(19,.bool false),(20,.int .i64 11),(22,.int .i64 0),(23,.bool true),(24,.int .i64 0)] a)=>?_)
 obtain ⟨o,ho,hop,hd,hg⟩:∃ o,(cnOps 37)[3]?=some o∧o.op=.unOp .not 4 (.tmp 147)∧o.dst=some 148∧o.guard=some (1,true):=⟨_,rfl,rfl,rfl,rfl⟩
 have e147:=hA.get (t:=147) rfl
 refine lw_val (v:=.bool true) hA ho ((hA.wanted (x:=true) hg rfl rfl rfl).trans rfl) (by decide) (by rw [hop];rfl) hd (by decide) (fun d=>by unfold execOp;simp only [hop,e147];go_simp) (fun a (hA:Lvs 211 [(148,.bool true),(147,.bool false),(146,.bool true),(145,.bool true),(2,vc),(5,.bool true),(6,vk),(8,vl),(11,vb),(12,vd),(17,vs),(18,.int .i64 p),(19,.bool false),(20,.int .i64 11),(22,.int .i64 0),(23,.bool true),(24,.int .i64 0)] a)=>?_)
 clear ho hop hd hg e147
 obtain ⟨o,ho,hop,hd,hg⟩:∃ o,(cnOps 37)[4]?=some o∧o.op=.pick (.tmp 146) (.tmp 148) (.const (.bool false))∧o.dst=some 149∧o.guard=none:=⟨_,rfl,rfl,rfl,rfl⟩
 have e146:=hA.get (t:=146) rfl
 have e148:=hA.get (t:=148) rfl
 refine lw_val (v:=.bool true) hA ho (wanted_none hg) (by decide) (by rw [hop];rfl) hd (by decide) (fun d=>by unfold execOp;simp only [hop,e146,e148];go_simp) (fun a (hA:Lvs 211 [(149,.bool true),(148,.bool true),(147,.bool false),(146,.bool true),(145,.bool true),(2,vc),(5,.bool true),(6,vk),(8,vl),(11,vb),(12,vd),(17,vs),(18,.int .i64 p),(19,.bool false),(20,.int .i64 11),(22,.int .i64 0),(23,.bool true),(24,.int .i64 0)] a)=>?_)
 clear ho hop hd hg e146 e148
 refine lw_val (v:=.bool true) hA rfl (wanted_none rfl) (by decide) (by kernel_rfl) rfl (by decide) (fun d=>run_move rfl (hA.get rfl)) (fun a (hA:Lvs 211 [(150,.bool true),(149,.bool true),(148,.bool true),(147,.bool false),(146,.bool true),(145,.bool true),(2,vc),(5,.bool true),(6,vk),(8,vl),(11,vb),(12,vd),(17,vs),(18,.int .i64 p),(19,.bool false),(20,.int .i64 11),(22,.int .i64 0),(23,.bool true),(24,.int .i64 0)] a)=>?_)
 replace hA:Lvs 211 [(2,vc),(5,.bool true),(6,vk),(8,vl),(11,vb),(12,vd),(17,vs),(18,.int .i64 p),(20,.int .i64 11),(22,.int .i64 0),(23,.bool true),(24,.int .i64 0),(150,.bool true)] a:=hA.sub (fun p hp=>by
  simp only [List.mem_cons,List.not_mem_nil,or_false] at hp
  rcases hp with rfl|rfl|rfl|rfl|rfl|rfl|rfl|rfl|rfl|rfl|rfl|rfl|rfl<;>rfl)
 refine lw_val (v:=.int .i64 11) hA rfl ((hA.wanted (x:=true) rfl rfl rfl rfl).trans rfl) (by decide) (by kernel_rfl) rfl (by decide) (fun d=>run_move rfl (hA.get rfl)) (fun a (hA:Lvs 211 [(151,.int .i64 11),(2,vc),(5,.bool true),(6,vk),(8,vl),(11,vb),(12,vd),(17,vs),(18,.int .i64 p),(20,.int .i64 11),(22,.int .i64 0),(23,.bool true),(24,.int .i64 0),(150,.bool true)] a)=>?_)
 obtain ⟨o,ho,hop,hd,hg⟩:∃ o,(cnOps 37)[7]?=some o∧o.op=.binOp .eql 26 (.tmp 151) (.const (.int .i64 11)) 26∧o.dst=some 152∧o.guard=some (5,true):=⟨_,rfl,rfl,rfl,rfl⟩
 have e151:=hA.get (t:=151) rfl
 refine lw_val (v:=.bool true) hA ho ((hA.wanted (x:=true) hg rfl rfl rfl).trans rfl) (by decide) (by rw [hop];rfl) hd (by decide) (fun d=>by unfold execOp;simp only [hop,e151];go_simp) (fun a (hA:Lvs 211 [(152,.bool true),(151,.int .i64 11),(2,vc),(5,.bool true),(6,vk),(8,vl),(11,vb),(12,vd),(17,vs),(18,.int .i64 p),(20,.int .i64 11),(22,.int .i64 0),(23,.bool true),(24,.int .i64 0),(150,.bool true)] a)=>?_)
 clear ho hop hd hg e151
 obtain ⟨o,ho,hop,hd,hg⟩:∃ o,(cnOps 37)[8]?=some o∧o.op=.pick (.tmp 150) (.tmp 152) (.const (.bool false))∧o.dst=some 153∧o.guard=none:=⟨_,rfl,rfl,rfl,rfl⟩
 have e150:=hA.get (t:=150) rfl
 have e152:=hA.get (t:=152) rfl
 refine lw_val (v:=.bool true) hA ho (wanted_none hg) (by decide) (by rw [hop];rfl) hd (by decide) (fun d=>by unfold execOp;simp only [hop,e150,e152];go_simp) (fun a (hA:Lvs 211 [(153,.bool true),(152,.bool true),(151,.int .i64 11),(2,vc),(5,.bool true),(6,vk),(8,vl),(11,vb),(12,vd),(17,vs),(18,.int .i64 p),(20,.int .i64 11),(22,.int .i64 0),(23,.bool true),(24,.int .i64 0),(150,.bool true)] a)=>?_)
 clear ho hop hd hg e150 e152
 refine lw_val (v:=.bool true) hA rfl (wanted_none rfl) (by decide) (by kernel_rfl) rfl (by decide) (fun d=>run_move rfl (hA.get rfl)) (fun a (hA:Lvs 211 [(154,.bool true),(153,.bool true),(152,.bool true),(151,.int .i64 11),(2,vc),(5,.bool true),(6,vk),(8,vl),(11,vb),(12,vd),(17,vs),(18,.int .i64 p),(20,.int .i64 11),(22,.int .i64 0),(23,.bool true),(24,.int .i64 0),(150,.bool true)] a)=>?_)
 replace hA:Lvs 211 [(2,vc),(5,.bool true),(6,vk),(8,vl),(11,vb),(12,vd),(17,vs),(18,.int .i64 p),(22,.int .i64 0),(23,.bool true),(24,.int .i64 0),(154,.bool true)] a:=hA.sub (fun p hp=>by
  simp only [List.mem_cons,List.not_mem_nil,or_false] at hp
  rcases hp with rfl|rfl|rfl|rfl|rfl|rfl|rfl|rfl|rfl|rfl|rfl|rfl<;>rfl)
 refine lw_val (v:=.int .i64 0) hA rfl ((hA.wanted (x:=true) rfl rfl rfl rfl).trans rfl) (by decide) (by kernel_rfl) rfl (by decide) (fun d=>run_move rfl (hA.get rfl)) (fun a (hA:Lvs 211 [(155,.int .i64 0),(2,vc),(5,.bool true),(6,vk),(8,vl),(11,vb),(12,vd),(17,vs),(18,.int .i64 p),(22,.int .i64 0),(23,.bool true),(24,.int .i64 0),(154,.bool true)] a)=>?_)
 obtain ⟨o,ho,hop,hd,hg⟩:∃ o,(cnOps 37)[11]?=some o∧o.op=.binOp .eql 26 (.tmp 155) (.const (.int .i64 0)) 26∧o.dst=some 156∧o.guard=some (9,true):=⟨_,rfl,rfl,rfl,rfl⟩
 have e155:=hA.get (t:=155) rfl
 refine lw_val (v:=.bool true) hA ho ((hA.wanted (x:=true) hg rfl rfl rfl).trans rfl) (by decide) (by rw [hop];rfl) hd (by decide) (fun d=>by unfold execOp;simp only [hop,e155];go_simp) (fun a (hA:Lvs 211 [(156,.bool true),(155,.int .i64 0),(2,vc),(5,.bool true),(6,vk),(8,vl),(11,vb),(12,vd),(17,vs),(18,.int .i64 p),(22,.int .i64 0),(23,.bool true),(24,.int .i64 0),(154,.bool true)] a)=>?_)
 clear ho hop hd hg e155
 obtain ⟨o,ho,hop,hd,hg⟩:∃ o,(cnOps 37)[12]?=some o∧o.op=.pick (.tmp 154) (.tmp 156) (.const (.bool false))∧o.dst=some 157∧o.guard=none:=⟨_,rfl,rfl,rfl,rfl⟩
 have e154:=hA.get (t:=154) rfl
 have e156:=hA.get (t:=156) rfl
 refine lw_val (v:=.bool true) hA ho (wanted_none hg) (by decide) (by rw [hop];rfl) hd (by decide) (fun d=>by unfold execOp;simp only [hop,e154,e156];go_simp) (fun a (hA:Lvs 211 [(157,.bool true),(156,.bool true),(155,.int .i64 0),(2,vc),(5,.bool true),(6,vk),(8,vl),(11,vb),(12,vd),(17,vs),(18,.int .i64 p),(22,.int .i64 0),(23,.bool true),(24,.int .i64 0),(154,.bool true)] a)=>?_)
 clear ho hop hd hg e154 e156
 refine lw_val (v:=.bool true) hA rfl (wanted_none rfl) (by decide) (by kernel_rfl) rfl (by decide) (fun d=>run_move rfl (hA.get rfl)) (fun a (hA:Lvs 211 [(158,.bool true),(157,.bool true),(156,.bool true),(155,.int .i64 0),(2,vc),(5,.bool true),(6,vk),(8,vl),(11,vb),(12,vd),(17,vs),(18,.int .i64 p),(22,.int .i64 0),(23,.bool true),(24,.int .i64 0),(154,.bool true)] a)=>?_)
 replace hA:Lvs 211 [(2,vc),(5,.bool true),(6,vk),(8,vl),(11,vb),(12,vd),(17,vs),(18,.int .i64 p),(23,.bool true),(24,.int .i64 0),(158,.bool true)] a:=hA.sub (fun p hp=>by
  simp only [List.mem_cons,List.not_mem_nil,or_false] at hp
  rcases hp with rfl|rfl|rfl|rfl|rfl|rfl|rfl|rfl|rfl|rfl|rfl<;>rfl)
 refine lw_val (v:=.bool true) hA rfl ((hA.wanted (x:=true) rfl rfl rfl rfl).trans rfl) (by decide) (by kernel_rfl) rfl (by decide) (fun d=>run_move rfl (hA.get rfl)) (fun a (hA:Lvs 211 [(159,.bool true),(2,vc),(5,.bool true),(6,vk),(8,vl),(11,vb),(12,vd),(17,vs),(18,.int .i64 p),(23,.bool true),(24,.int .i64 0),(158,.bool true)] a)=>?_)
 obtain ⟨o,ho,hop,hd,hg⟩:∃ o,(cnOps 37)[15]?=some o∧o.op=.pick (.tmp 158) (.tmp 159) (.const (.bool false))∧o.dst=some 160∧o.guard=none:=⟨_,rfl,rfl,rfl,rfl⟩
 have e158:=hA.get (t:=158) rfl
 have e159:=hA.get (t:=159) rfl
 refine lw_val (v:=.bool true) hA ho (wanted_none hg) (by decide) (by rw [hop];rfl) hd (by decide) (fun d=>by unfold execOp;simp only [hop,e158,e159];go_simp) (fun a (hA:Lvs 211 [(160,.bool true),(159,.bool true),(2,vc),(5,.bool true),(6,vk),(8,vl),(11,vb),(12,vd),(17,vs),(18,.int .i64 p),(23,.bool true),(24,.int .i64 0),(158,.bool true)] a)=>?_)
 clear ho hop hd hg e158 e159
 refine lw_val (v:=.bool true) hA rfl (wanted_none rfl) (by decide) (by kernel_rfl) rfl (by decide) (fun d=>run_move rfl (hA.get rfl)) (fun a (hA:Lvs 211 [(161,.bool true),(160,.bool true),(159,.bool true),(2,vc),(5,.bool true),(6,vk),(8,vl),(11,vb),(12,vd),(17,vs),(18,.int .i64 p),(23,.bool true),(24,.int .i64 0),(158,.bool true)] a)=>?_)
 replace hA:Lvs 211 [(2,vc),(5,.bool true),(6,vk),(8,vl),(11,vb),(12,vd),(17,vs),(18,.int .i64 p),(24,.int .i64 0),(161,.bool true)] a:=hA.sub (fun p hp=>by
  simp only [List.mem_cons,List.not_mem_nil,or_false] at hp
  rcases hp with rfl|rfl|rfl|rfl|rfl|rfl|rfl|rfl|rfl|rfl<;>rfl)
 refine lw_val (v:=.int .i64 0) hA rfl ((hA.wanted (x:=true) rfl rfl rfl rfl).trans rfl) (by decide) (by kernel_rfl) rfl (by decide) (fun d=>run_move rfl (hA.get rfl)) (fun a (hA:Lvs 211 [(162,.int .i64 0),(2,vc),(5,.bool true),(6,vk),(8,vl),(11,vb),(12,vd),(17,vs),(18,.int .i64 p),(24,.int .i64 0),(161,.bool true)] a)=>?_)
 obtain ⟨o,ho,hop,hd,hg⟩:∃ o,(cnOps 37)[18]?=some o∧o.op=.binOp .eql 26 (.tmp 162) (.const (.int .i64 0)) 26∧o.dst=some 163∧o.guard=some (16,true):=⟨_,rfl,rfl,rfl,rfl⟩
 have e162:=hA.get (t:=162) rfl
 refine lw_val (v:=.bool true) hA ho ((hA.wanted (x:=true) hg rfl rfl rfl).trans rfl) (by decide) (by rw [hop];rfl) hd (by decide) (fun d=>by unfold execOp;simp only [hop,e162];go_simp) (fun a (hA:Lvs 211 [(163,.bool true),(162,.int .i64 0),(2,vc),(5,.bool true),(6,vk),(8,vl),(11,vb),(12,vd),(17,vs),(18,.int .i64 p),(24,.int .i64 0),(161,.bool true)] a)=>?_)
 clear ho hop hd hg e162
 obtain ⟨o,ho,hop,hd,hg⟩:∃ o,(cnOps 37)[19]?=some o∧o.op=.pick (.tmp 161) (.tmp 163) (.const (.bool false))∧o.dst=some 164∧o.guard=none:=⟨_,rfl,rfl,rfl,rfl⟩
 have e161:=hA.get (t:=161) rfl
 have e163:=hA.get (t:=163) rfl
 refine lw_val (v:=.bool true) hA ho (wanted_none hg) (by decide) (by rw [hop];rfl) hd (by decide) (fun d=>by unfold execOp;simp only [hop,e161,e163];go_simp) (fun a (hA:Lvs 211 [(164,.bool true),(163,.bool true),(162,.int .i64 0),(2,vc),(5,.bool true),(6,vk),(8,vl),(11,vb),(12,vd),(17,vs),(18,.int .i64 p),(24,.int .i64 0),(161,.bool true)] a)=>?_)
 clear ho hop hd hg e161 e163
 refine lw_val (v:=.bool true) hA rfl (wanted_none rfl) (by decide) (by kernel_rfl) rfl (by decide) (fun d=>run_assign rfl (hA.get rfl)) (fun a (hA:Lvs 211 [(5,.bool true),(164,.bool true),(163,.bool true),(162,.int .i64 0),(2,vc),(6,vk),(8,vl),(11,vb),(12,vd),(17,vs),(18,.int .i64 p),(24,.int .i64 0),(161,.bool true)] a)=>?_)
 refine Br.liv_region_end ?_
 replace hA:Lvs 211 [(2,vc),(5,.bool true),(6,vk),(8,vl),(11,vb),(12,vd),(17,vs),(18,.int .i64 p)] a:=hA.sub (fun p hp=>by
  simp only [List.mem_cons,List.not_mem_nil,or_false] at hp
  rcases hp with rfl|rfl|rfl|rfl|rfl|rfl|rfl|rfl<;>rfl)
 exact hn a hA
end Go.Proofs.YtcgabodkegcpgaaDoor
