/- The reference's New, for all settings that may be. -/
import Derived.Test.YtcgabodkegcpgaaGreatDoorRnw
namespace Go.Proofs.YtcgabodkegcpgaaGreatDoor
open Go.RowKit
set_option linter.unusedVariables false
set_option linter.unusedSimpArgs false
attribute [local go_sem ↓] Go.wp_at_zero Go.wp_at_succ

theorem infoInt : (Tryz.prog.info? 3).map (fun i => (i.zero, i.size, i.bytes)) = some (some (.int .i64 0), 1, 8) := by kernel_rfl
theorem one_news (wr : World) (v : Value) (j : Nat) (u : Value) (hu : [v][j]? = some u) : (wr.alloc (.cells #[v] 3)).cell? ((⟨wr.heap.size, 0, none⟩ : Addr).add j) = some u := by
  have hb := heap_alloc_new wr (.cells #[v] 3)
  rw [Addr.add_mid, Nat.zero_add, cell_of_row _ _ j _ _ _ hb]
  simpa using hu
theorem one_one (v : Int) : ∀ u ∈ [Value.int .i64 v], u.oneCell' = true := by simp [Value.oneCell']
theorem grow_all {j : Nat} {N : Nat → Nat} {X : Nat → List Value} (h : ∀ c, 2 ≤ c → c ≤ 4 → N c = j ∧ X c = pipes j c) : ∀ c, 2 ≤ c → c ≤ 4 → up (up (up N 2 (N 2 + 1)) 3 (N 3 + 1)) 4 (N 4 + 1) c = j + 1 ∧ up (up (up X 2 (X 2 ++ [.int .i64 (-1)])) 3 (X 3 ++ [.int .i64 0])) 4 (X 4 ++ [.int .i64 0]) c = pipes (j + 1) c := fun c h2 h4 => by
  obtain rfl | rfl | rfl : c = 2 ∨ c = 3 ∨ c = 4 := by omega
  all_goals
    rw [pipes_succ]
    simp [up, h]
theorem gro_app {w wr : World} {nF nS nD : Nat} {V : Nat → Value} {N : Nat → Nat} {X : Nat → List Value} {c : Nat} (h2 : 2 ≤ c) (h4 : c ≤ 4) (G : Gro w wr nF nS nD V N X) (hn : N c ≤ 4) (val : Int) {ops : Array Oper} {rest : List Oper} {o : Oper} {a : Go.Act} {Q : Exit → Go.Act → World → Prop} (hgd : o.guard = none) (s x : Operand)
    (ho : o.op = .call { callee := .builtin .append, args := #[s, x], argTypes := #[103, 103] }) (hs : a.eval s = V c) (H : Nat) (hH : wr.heap.size = H) (hx : a.eval x = .slice (some ⟨H, 0, none⟩) 1 1)
    (h : ∀ g cap w2, Gro w (w2.setCell ⟨w.heap.size + 1 + 1, c, none⟩ (.slice (some ⟨g, 0, none⟩) (N c + 1) cap)) nF nS nD (up V c (.slice (some ⟨g, 0, none⟩) (N c + 1) cap)) (up N c (N c + 1)) (up X c (X c ++ [.int .i64 val])) → w2.rowIs (w.heap.size + 1 + 1) 105 5 (fun c => if c = 0 then .slice (some ⟨w.heap.size + 1, 0, none⟩) nF nF else V c) → wpList Tryz.prog ops Q rest (a.put o.dst (.slice (some ⟨g, 0, none⟩) (N c + 1) cap)) w2) :
    wpList Tryz.prog ops Q (o :: rest) a (wr.alloc (.cells #[.int .i64 val] 3)) := by
  subst hH
  have hinfo := infoInt
  cases hq : Tryz.prog.info? 3 with
  | none => rw [hq] at hinfo; cases hinfo
  | some i =>
    rw [hq] at hinfo
    simp only [Option.map_some, Option.some.injEq, Prod.mk.injEq] at hinfo
    have ow := G.own c (by omega) h4
    have e1 : gTy c = 3 := if_neg (by omega)
    have e2 : gSz c = 1 := if_neg (by omega)
    rw [e1, e2] at ow
    refine wpList_append_lies _ hgd s x 103 ho (w.heap.size + 3) 3 i _ 1 8 Tryz.underlying103 hq hinfo.1 hinfo.2.1 hinfo.2.2 (by rfl) (by omega) (V c) (N c) (X c) hs (ow.alloc _) ⟨wr.heap.size, 0, none⟩ 1 1 [.int .i64 val] hx rfl (one_news _ _) (one_one _) (by omega) (by simp [maxLen]; omega) (by omega) (by have := G.size; simp; omega) (wr.heap.size + 1) (by simp) ?_
    intro g cap w2 o2 g2 at2 lt2
    exact h g cap w2 (G.grown (by omega) h4 g2 (by rw [e1, e2]; exact o2) at2) (G.rowed (by omega) h4 g2)
set_option maxRecDepth 100000 in
set_option maxHeartbeats 4000000 in
theorem rnew_any (nF nS nD : Nat) (h1 : 2 ≤ nF) (h2 : nF ≤ 32) (h3 : 1 ≤ nS) (h4 : nS ≤ 6) (h5 : nD ≤ 4) (w : World) :
    Calls Tryz.prog 13 #[.agg #[.int .i64 nF, .int .i64 nS, .int .i64 nD]] w fun e w' => ∃ B r, e = .returned (.tuple #[.pointer (some ⟨B.b, 0, none⟩), .int .i64 0]) ∧ RMem w' B r ∧ Rel (kNew nF nS nD) r ∧ Below w.heap.size w w' ∧ w.heap.size ≤ B.b ∧ w.heap.size ≤ B.bw ∧ w.heap.size ≤ B.bp ∧ ∀ q, w.heap.size ≤ B.bq q := by
  have e1 : inB ((nF : Int) - 2) 31 = true := inB_true'.2 ⟨by omega, by omega⟩
  have e2 : inB ((nS : Int) - 1) 6 = true := inB_true'.2 ⟨by omega, by omega⟩
  have e3 : inB (nD : Int) 5 = true := inB_true'.2 ⟨by omega, by omega⟩
  obtain ⟨C, hC, hCz, hmk⟩ := makeWords nF h2 (w.alloc (.cells #[.int .i64 nF, .int .i64 nS, .int .i64 nD] 23))
  have hsz : (w.alloc (.cells #[.int .i64 nF, .int .i64 nS, .int .i64 nD] 23)).heap.size = w.heap.size + 1 := by simp
  rw [hsz] at hmk
  have HC : Hid (C.size = nF * 4 ∧ ∀ j, j < nF * 4 → C[j]? = some (.int .i64 0)) := ⟨hC, hCz⟩
  clear hC hCz hsz
  go_enter Tryz.func13, Tryz.ntmps13
  go_wp2_with fail
  refine (in_any _ _ _).mono ?_
  rintro e w1 ⟨rfl, rfl⟩
  rw [e1]
  go_wp2_with fail
  refine (in_any _ _ _).mono ?_
  rintro e w1 ⟨rfl, rfl⟩
  rw [e2]
  go_wp2_with fail
  refine (in_any _ _ _).mono ?_
  rintro e w1 ⟨rfl, rfl⟩
  rw [e3]
  obtain ⟨iP, hiP, hzP, hsP, hbP⟩ : ∃ i, Tryz.prog.info? 107 = some i ∧ i.zero = some (.agg (procCells 0 0 0 0).toArray) ∧ i.size = 12 ∧ i.bytes = 96 := by
    have hinfo := infoProc
    cases hq : Tryz.prog.info? 107 with
    | none => rw [hq] at hinfo; cases hinfo
    | some i =>
      rw [hq] at hinfo
      simp only [Option.map_some, Option.some.injEq, Prod.mk.injEq] at hinfo
      exact ⟨i, rfl, hinfo.1, hinfo.2.1, hinfo.2.2⟩
  have HiP : Hid (Tryz.prog.info? 107 = some iP ∧ iP.zero = some (.agg (procCells 0 0 0 0).toArray) ∧ iP.size = 12 ∧ iP.bytes = 96) := ⟨hiP, hzP, hsP, hbP⟩
  clear hiP hzP hsP hbP
  obtain ⟨iN, hiN, hzN, hsN, hbN⟩ : ∃ i, Tryz.prog.info? 3 = some i ∧ i.zero = some (.int .i64 0) ∧ i.size = 1 ∧ i.bytes = 8 := by
    have hinfo := infoInt
    cases hq : Tryz.prog.info? 3 with
    | none => rw [hq] at hinfo; cases hinfo
    | some i =>
      rw [hq] at hinfo
      simp only [Option.map_some, Option.some.injEq, Prod.mk.injEq] at hinfo
      exact ⟨i, rfl, hinfo.1, hinfo.2.1, hinfo.2.2⟩
  have HiN : Hid (Tryz.prog.info? 3 = some iN ∧ iN.zero = some (.int .i64 0) ∧ iN.size = 1 ∧ iN.bytes = 8) := ⟨hiN, hzN, hsN, hbN⟩
  clear hiN hzN hsN hbN
  go_wp2
  go_loopw [8] (fun i w' => ∃ (k : Nat) (V : Nat → Value) (N : Nat → Nat) (X : Nat → List Value), k ≤ nS ∧ i = .int .i64 k ∧ Gro w w' nF nS nD V N X ∧ N 1 = k ∧ X 1 = nones k ∧ ∀ c, 2 ≤ c → c ≤ 4 → N c = 0 ∧ X c = []) (fun i _ => nS - (intOf i).toNat)
  case atStart => exact ⟨0, _, _, _, by omega, rfl, (Grow.start w nF nS nD C HC.out.1 HC.out.2).gro, rfl, rfl, fun _ _ _ => ⟨rfl, rfl⟩⟩
  case round =>
    obtain ⟨k, V, N, X, hk, rfl, g1, n1, x1, hc1⟩ := hrel
    have HG : Hid (Gro w wr nF nS nD V N X ∧ N 1 = k ∧ X 1 = nones k ∧ ∀ c, 2 ≤ c → c ≤ 4 → N c = 0 ∧ X c = []) := ⟨g1, n1, x1, hc1⟩
    have HO : Hid (wr.ownsRow (w.heap.size + 3) 107 12 (V 1) k (nones k)) := by have := g1.own 1 (by omega) (by omega); rw [n1, x1] at this; exact this
    have c1 := g1.cfg1.1
    have s1 : ∀ o, (wr.alloc o).cell? ⟨w.heap.size + 1 + 1, 1, none⟩ = some (V 1) := fun o => by have h := (g1.str.alloc o).cell (show 1 < 5 by omega); rwa [if_neg (by omega)] at h
    have s0 : wr.cell? ⟨w.heap.size + 1 + 1, 1, none⟩ = some (V 1) := g1.cell (by omega) (by omega)
    clear g1 n1 x1 hc1
    by_cases hlt : k < nS
    · go_wp2_with (refine wpList_append_lies _ rfl _ _ 102 rfl (w.heap.size + 3) 107 iP _ 12 96 Tryz.underlying102 HiP.out.1 HiP.out.2.1 HiP.out.2.2.1 HiP.out.2.2.2 (by rfl) (by omega) (V 1) k (nones k) rfl (HO.out.alloc _) ⟨wr.heap.size, 0, none⟩ 1 1 (procCells 0 (-1) (-1) 0) rfl rfl (none_news wr) none_one (by omega) (by simp [maxLen]; omega) (by omega) (by have := HG.out.1.size; simp; omega) (wr.heap.size + 1) (by simp) ?_; intro g cap w2 o2 g2 at2 lt2; have HN : Hid (Gro w (w2.setCell ⟨w.heap.size + 1 + 1, 1, none⟩ (.slice (some ⟨g, 0, none⟩) (k + 1) cap)) nF nS nD (up V 1 (.slice (some ⟨g, 0, none⟩) (k + 1) cap)) (up N 1 (k + 1)) (up X 1 (nones (k + 1)))) := HG.out.1.grown (c := 1) (by omega) (by omega) g2 o2 at2; have s2 : w2.cell? ⟨w.heap.size + 1 + 1, 1, none⟩ = some (V 1) := (HG.out.1.rowed (c := 1) (by omega) (by omega) g2).cell (show 1 < 5 by omega); have z2 : w2.frozen? ⟨w.heap.size + 1 + 1, 1, none⟩ = false := (HG.out.1.rowed (c := 1) (by omega) (by omega) g2).frozen 1; clear o2 g2 at2)
      exact ⟨⟨k + 1, _, _, _, by omega, by go_num, HN.out, up_same _ _ _, up_same _ _ _, fun c h h' => by rw [up_other _ _ (by omega), up_other _ _ (by omega)]; exact HG.out.2.2.2 c h h'⟩, by simp [intOf]; omega⟩
    · obtain rfl : k = nS := by omega
      clear s1 s0 hlt
      go_wp2
      go_loopw [9] (fun i w' => ∃ (j : Nat) (V : Nat → Value) (N : Nat → Nat) (X : Nat → List Value), j ≤ nD ∧ i = .int .i64 j ∧ Gro w w' nF k nD V N X ∧ N 1 = k ∧ X 1 = nones k ∧ ∀ c, 2 ≤ c → c ≤ 4 → N c = j ∧ X c = pipes j c) (fun i _ => nD - (intOf i).toNat)
      case atStart => exact ⟨0, V, N, X, by omega, rfl, HG.out.1, HG.out.2.1, HG.out.2.2.1, fun c h h' => HG.out.2.2.2 c h h'⟩
      case round =>
        clear HG HO c1 hmk e1 e2 e3 HC HiP HiN
        obtain ⟨j, V, N, X, hj, rfl, g1, n1, x1, hc1⟩ := hrel
        have HG : Hid (Gro w wr nF k nD V N X ∧ N 1 = k ∧ X 1 = nones k ∧ ∀ c, 2 ≤ c → c ≤ 4 → N c = j ∧ X c = pipes j c) := ⟨g1, n1, x1, hc1⟩
        have c1 := g1.cfg1.2
        have s1 : ∀ o, (wr.alloc o).cell? ⟨w.heap.size + 1 + 1, 2, none⟩ = some (V 2) := fun o => by have h := (g1.str.alloc o).cell (show 2 < 5 by omega); rwa [if_neg (by omega)] at h
        have s0 : wr.cell? ⟨w.heap.size + 1 + 1, 2, none⟩ = some (V 2) := g1.cell (by omega) (by omega)
        clear g1 n1 x1 hc1
        by_cases hlt : j < nD
        · have HL2 : Hid (N 2 ≤ 4) := by unfold Hid; have := (HG.out.2.2.2 2 (by omega) (by omega)).1; omega
          have HL3 : Hid (N 3 ≤ 4) := by unfold Hid; have := (HG.out.2.2.2 3 (by omega) (by omega)).1; omega
          have HL4 : Hid (N 4 ≤ 4) := by unfold Hid; have := (HG.out.2.2.2 4 (by omega) (by omega)).1; omega
          have tok2 : Hid True := trivial
          go_wp2_with (first | (clear tok2; refine gro_app (c := 2) (by omega) (by omega) HG.out.1 HL2.out (-1) rfl _ _ rfl rfl (wr.heap.size) (by simp) rfl ?_; intro g2 cap2 w2 G2 R2; have H2 : Hid _ := G2; have s2 : w2.cell? ⟨w.heap.size + 1 + 1, 2, none⟩ = some (V 2) := R2.cell (show 2 < 5 by omega); have z2 : w2.frozen? ⟨w.heap.size + 1 + 1, 2, none⟩ = false := R2.frozen 2; have t2 : w2.cell? ⟨w.heap.size + 1 + 1, 3, none⟩ = some (V 3) := R2.cell (show 3 < 5 by omega); have v2 : ∀ o, ((w2.setCell ⟨w.heap.size + 1 + 1, 2, none⟩ (.slice (some ⟨g2, 0, none⟩) (N 2 + 1) cap2)).alloc o).cell? ⟨w.heap.size + 1 + 1, 3, none⟩ = some (V 3) := fun o => (G2.str.alloc o).cell (show 3 < 5 by omega); clear G2 R2 s1 s0; have tok3 : Hid True := trivial) | (clear tok3; refine gro_app (c := 3) (by omega) (by omega) H2.out HL3.out (0) rfl _ _ rfl rfl (w2.heap.size) (by simp) rfl ?_; intro g3 cap3 w3 G3 R3; have H3 : Hid _ := G3; have s3 : w3.cell? ⟨w.heap.size + 1 + 1, 3, none⟩ = some (V 3) := R3.cell (show 3 < 5 by omega); have z3 : w3.frozen? ⟨w.heap.size + 1 + 1, 3, none⟩ = false := R3.frozen 3; have t3 : w3.cell? ⟨w.heap.size + 1 + 1, 4, none⟩ = some (V 4) := R3.cell (show 4 < 5 by omega); have v3 : ∀ o, ((w3.setCell ⟨w.heap.size + 1 + 1, 3, none⟩ (.slice (some ⟨g3, 0, none⟩) (N 3 + 1) cap3)).alloc o).cell? ⟨w.heap.size + 1 + 1, 4, none⟩ = some (V 4) := fun o => (G3.str.alloc o).cell (show 4 < 5 by omega); clear G3 R3 s2 z2 t2 v2; have tok4 : Hid True := trivial) | (clear tok4; refine gro_app (c := 4) (by omega) (by omega) H3.out HL4.out (0) rfl _ _ rfl rfl (w3.heap.size) (by simp) rfl ?_; intro g4 cap4 w4 G4 R4; have H4 : Hid _ := G4; have s4 : w4.cell? ⟨w.heap.size + 1 + 1, 4, none⟩ = some (V 4) := R4.cell (show 4 < 5 by omega); have z4 : w4.frozen? ⟨w.heap.size + 1 + 1, 4, none⟩ = false := R4.frozen 4; clear G4 R4))
          exact ⟨⟨j + 1, _, _, _, by omega, by go_num, H4.out, by rw [up_other _ _ (by omega), up_other _ _ (by omega), up_other _ _ (by omega)]; exact HG.out.2.1, by rw [up_other _ _ (by omega), up_other _ _ (by omega), up_other _ _ (by omega)]; exact HG.out.2.2.1, fun c h h' => grow_all HG.out.2.2.2 c h h'⟩, by simp [intOf]; omega⟩
        · obtain rfl : j = nD := by omega
          obtain ⟨B, r, cap, eb, ev, M, es, p0, p2, U, y1, y2, y3⟩ := HG.out.1.done h3 h2 h4 h5 HG.out.2.1 HG.out.2.2.1 HG.out.2.2.2
          have HM : Hid (B.b = w.heap.size + 1 + 1 ∧ RMem wr B r ∧ r.nS = k ∧ Rel (kNew nF k j) ((r.setP 0 0 2).setP 0 2 0) ∧ w.heap.size ≤ B.bw ∧ w.heap.size ≤ B.bp ∧ ∀ q, w.heap.size ≤ B.bq q) := ⟨eb, M, es, U, y1, y2, y3⟩
          have q1 : wr.cell? ⟨w.heap.size + 1 + 1, 1, none⟩ = some (.slice (some ⟨B.bp, 0, none⟩) k cap) := by rw [← ev]; exact HG.out.1.cell (by omega) (by omega)
          have q0 : wr.cell? ⟨B.bp, 0, none⟩ = some (.int .i64 0) := by have := M.pr 0 0 (by omega) (by omega); rw [p0] at this; exact this
          have q2 : wr.cell? ⟨B.bp, 2, none⟩ = some (.int .i64 (-1)) := by have := M.pr 0 2 (by omega) (by omega); rw [p2] at this; exact this
          have f0 : wr.frozen? ⟨B.bp, 0, none⟩ = false := M.zp 0
          have f2 : wr.frozen? ⟨B.bp, 2, none⟩ = false := M.zp 2
          have n1 : w.heap.size + 1 + 1 ≠ B.bp := by rw [← eb]; exact M.bp
          have n2 : B.bp ≠ w.heap.size + 1 + 1 := Ne.symm n1
          have i1 : (0 : Int) < (k : Int) := by omega
          clear s1 s0 M U es eb ev y1 y2 y3 p0 p2
          go_wp2
          go_ret2
          exact ⟨B, (r.setP 0 0 2).setP 0 2 0, by rw [HM.out.1]; rfl, (HM.out.2.1.setP (i := 0) (c := 0) (by have := HM.out.2.2.1; omega) (by omega) rfl 2).setP (i := 0) (c := 2) (show 0 < r.nS by have := HM.out.2.2.1; omega) (by omega) rfl 0, HM.out.2.2.2.1, (HG.out.1.bel.setCell (by show _ ≤ B.bp; have := HM.out.2.2.2.2.2.1; omega) _).setCell (by show _ ≤ B.bp; have := HM.out.2.2.2.2.2.1; omega) _, by have := HM.out.1; omega, HM.out.2.2.2.2.1, HM.out.2.2.2.2.2.1, HM.out.2.2.2.2.2.2⟩
end Go.Proofs.YtcgabodkegcpgaaGreatDoor
