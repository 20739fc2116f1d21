/- The reference's Spawn and Exit. -/
import Derived.Test.YtcgabodkegcpgaaGreatDoorRf3
import Derived.Test.YtcgabodkegcpgaaGreatDoorRpp
namespace Go.Proofs.YtcgabodkegcpgaaGreatDoor
open Go.RowKit
set_option linter.unusedVariables false
set_option linter.unusedSimpArgs false
attribute [local go_sem ↓] Go.wp_at_zero Go.wp_at_succ

/-- The column of a process in the reference, of one in the kernel. -/
theorem pNum_setS (K : Ker) (s c : Nat) (v : Int) (hc : c < 3) (i d : Nat) (hd : d < 12) : pNum (K.setS s c v) i d = if i = s ∧ d = c then v else pNum K i d := by
  have S' : ∀ j, ¬ (i = s ∧ j = c) → (K.setS s c v).S i j = K.S i j := fun j hj => upd_other _ _ _ _ _ _ hj
  unfold pNum
  by_cases h1 : d < 3
  · rw [if_pos h1, if_pos h1]
    by_cases h : i = s ∧ d = c
    · rw [if_pos h, h.1, h.2]; exact upd_same _ _ _ _
    · rw [if_neg h]; exact S' d h
  rw [if_neg h1, if_neg h1, if_neg (show ¬ (i = s ∧ d = c) by omega)]
  have e1 : (K.setS s c v).S i 19 = K.S i 19 := S' 19 (by omega)
  have e2 : (K.setS s c v).page i (d - 4) = K.page i (d - 4) := S' _ (by omega)
  have e3 : (K.setS s c v).file i (d - 8) = K.file i (d - 8) := S' _ (by omega)
  rw [e1, e2, e3]
  rfl
theorem pNum_setCode (K : Ker) (s : Nat) (v : Int) (i d : Nat) (hd : d < 12) : pNum (K.setS s 19 v) i d = if i = s ∧ d = 3 then v else pNum K i d := by
  have S' : ∀ j, ¬ (i = s ∧ j = 19) → (K.setS s 19 v).S i j = K.S i j := fun j hj => upd_other _ _ _ _ _ _ hj
  unfold pNum
  by_cases h1 : d < 3
  · rw [if_pos h1, if_pos h1, S' d (by omega), if_neg (by omega)]
  rw [if_neg h1, if_neg h1]
  by_cases h2 : d = 3
  · rw [if_pos h2, if_pos h2]
    by_cases h : i = s
    · rw [if_pos ⟨h, h2⟩, h]; exact upd_same _ _ _ _
    · rw [if_neg (by omega)]; exact S' 19 (by omega)
  rw [if_neg h2, if_neg h2, if_neg (show ¬ (i = s ∧ d = 3) by omega)]
  by_cases h3 : d < 8
  · have e2 : (K.setS s 19 v).page i (d - 4) = K.page i (d - 4) := S' _ (by omega)
    rw [if_pos h3, if_pos h3, e2]; rfl
  · have e3 : (K.setS s 19 v).file i (d - 8) = K.file i (d - 8) := S' _ (by omega)
    rw [if_neg h3, if_neg h3, e3]; rfl
theorem Rel.setS {K : Ker} {r : Rk} (U : Rel K r) (s c : Nat) (v : Int) (hc : c < 3) : Rel (K.setS s c v) (r.setP s c v) := by
  refine ⟨U.f, U.s, U.d, fun i d hi hd => ?_, U.w, U.q⟩
  rw [pNum_setS K s c v hc i d hd]
  show upd r.P s c v i d = _
  by_cases h : i = s ∧ d = c
  · rw [if_pos h, h.1, h.2, upd_same]
  · rw [if_neg h, upd_other _ _ _ _ _ _ h]; exact U.p i d hi hd
theorem Rel.setCode {K : Ker} {r : Rk} (U : Rel K r) (s : Nat) (v : Int) : Rel (K.setS s 19 v) (r.setP s 3 v) := by
  refine ⟨U.f, U.s, U.d, fun i d hi hd => ?_, U.w, U.q⟩
  rw [pNum_setCode K s v i d hd]
  show upd r.P s 3 v i d = _
  by_cases h : i = s ∧ d = 3
  · rw [if_pos h, h.1, h.2, upd_same]
  · rw [if_neg h, upd_other _ _ _ _ _ _ h]; exact U.p i d hi hd

/-- A whole process is laid anew. -/
def Rk.row (r : Rk) (s : Nat) (g : Nat → Int) : Rk := { r with P := fun i c => if i = s then g c else r.P i c }
theorem RMem.row {w : World} {B : RB} {r : Rk} (M : RMem w B r) {s : Nat} (hs : s < r.nS) (cs : List Value) (g : Nat → Int) (hl : cs.length = 12) (hg : ∀ c, c < 12 → cs[c]? = some (.int .i64 (g c))) : RMem (w.setCells B.bp (s * 12) cs) B (r.row s g) := by
  have th : ∀ j, j < cs.length → (w.cell? ⟨B.bp, s * 12 + j, none⟩).isSome = true := fun j hj => by rw [M.pr s j hs (by omega)]; rfl
  have ot : ∀ b o, b ≠ B.bp → (w.setCells B.bp (s * 12) cs).cell? ⟨b, o, none⟩ = w.cell? ⟨b, o, none⟩ := fun b o hb => World.cell?_setCells_out B.bp cs (s * 12) w ⟨b, o, none⟩ (fun h => absurd h hb)
  have os : ∀ i j, i ≠ s → j < 12 → (w.setCells B.bp (s * 12) cs).cell? ⟨B.bp, i * 12 + j, none⟩ = w.cell? ⟨B.bp, i * 12 + j, none⟩ := fun i j hi hj => World.cell?_setCells_out B.bp cs (s * 12) w ⟨B.bp, i * 12 + j, none⟩ (fun _ _ => by rw [hl]; show i * 12 + j < s * 12 ∨ s * 12 + 12 ≤ i * 12 + j; omega)
  have ins : ∀ j (hj : j < 12), (w.setCells B.bp (s * 12) cs).cell? ⟨B.bp, s * 12 + j, none⟩ = some (cs[j]'(by omega)) := fun j hj => World.cell?_setCells_in B.bp cs (s * 12) w th j (by omega)
  have h1 := M.bp; have h2 := M.wp
  refine ⟨by rw [ot _ _ h1]; exact M.k0, by rw [ot _ _ h1]; exact M.k1, fun q hq => by rw [ot _ _ h1]; exact M.k2 q hq, M.aq, fun f j hf hj => by rw [ot _ _ h2]; exact M.wd f j hf hj, ?_, fun d q hd hq => by rw [ot _ _ (fun e => M.pq q hq e.symm)]; exact M.rg d q hd hq,
    fun o => by rw [World.frozen?_setCells]; exact M.zw o, fun o => by rw [World.frozen?_setCells]; exact M.zp o, fun q o hq hd => by rw [World.frozen?_setCells]; exact M.zq q o hq hd, by rw [size_setCells]; exact M.lb, by rw [size_setCells]; exact M.lw, by rw [size_setCells]; exact M.lp, fun q hq hd => by rw [size_setCells]; exact M.lq q hq hd,
    M.bw, M.bp, M.bq, M.wp, M.wq, M.pq, M.qq, M.hF, M.hS, M.hD⟩
  intro i c hi hc
  show _ = some (Value.int .i64 (if i = s then g c else r.P i c))
  by_cases e : i = s
  · subst e
    rw [ins c hc, if_pos rfl]
    have := hg c hc
    rw [List.getElem?_eq_getElem (by omega)] at this
    exact this
  · rw [os i c e hc, if_neg e]; exact M.pr i c hi hc
theorem RMem.thereP {w : World} {B : RB} {r : Rk} (M : RMem w B r) {s : Nat} (hs : s < r.nS) : w.there B.bp (s * 12) 12 := fun j hj => ⟨by rw [M.pr s j hs hj]; rfl, M.zp _⟩
theorem RKeeps.row {B : RB} {a w : World} (h : RKeeps B a w) : ∀ (vs : List Value) (o : Nat), RKeeps B a (w.setCells B.bp o vs) := fun vs => by
  induction vs generalizing w with
  | nil => intro o; exact h
  | cons v r ih => intro o; exact ih (h.setP o v) (o + 1)
def procCells (a b c d : Int) : List Value := [.int .i64 a, .int .i64 b, .int .i64 c, .int .i64 d, .int .i64 0, .int .i64 0, .int .i64 0, .int .i64 0, .int .i64 0, .int .i64 0, .int .i64 0, .int .i64 0]
def procNum (a b c d : Int) (i : Nat) : Int := if i = 0 then a else if i = 1 then b else if i = 2 then c else if i = 3 then d else 0
theorem procCells_get (a b c d : Int) (i : Nat) (hi : i < 12) : (procCells a b c d)[i]? = some (.int .i64 (procNum a b c d i)) := by
  obtain rfl | rfl | rfl | rfl | rfl | rfl | rfl | rfl | rfl | rfl | rfl | rfl : i = 0 ∨ i = 1 ∨ i = 2 ∨ i = 3 ∨ i = 4 ∨ i = 5 ∨ i = 6 ∨ i = 7 ∨ i = 8 ∨ i = 9 ∨ i = 10 ∨ i = 11 := by omega
  all_goals rfl
/-- A process that was none is one, with nothing. -/
theorem rel_spawn {K : Ker} {r : Rk} (U : Rel K r) (N : Neat K) {s c f : Nat} (hc : c < K.nS) (h0 : K.S c 0 = 0) : Rel ((((K.become f 1 c).setS c 0 1).setS c 1 s).setS c 2 f) (r.row c (procNum 1 s f 0)) := by
  have U1 : Rel (K.become f 1 c) r := U.frees f 1 c (by omega)
  have e1 : (K.become f 1 c).S = K.S := rfl
  have e2 : (K.become f 1 c).B = K.B := rfl
  have z1 : (K.become f 1 c).nS = K.nS := rfl
  generalize K.become f 1 c = K1 at *
  have U2 := ((U1.setS c 0 1 (by omega)).setS c 1 s (by omega)).setS c 2 f (by omega)
  refine ⟨U2.f, U2.s, U2.d, fun i d hi hd => ?_, U2.w, U2.q⟩
  rw [← U2.p i d hi hd]
  show (if i = c then procNum 1 s f 0 d else r.P i d) = upd (upd (upd r.P c 0 1) c 1 s) c 2 f i d
  unfold upd
  by_cases h : i = c
  · subst h
    rw [if_pos rfl]
    obtain rfl | rfl | rfl | rfl | ⟨h4, h8⟩ | h8 : d = 0 ∨ d = 1 ∨ d = 2 ∨ d = 3 ∨ (4 ≤ d ∧ d < 8) ∨ 8 ≤ d := by omega
    · simp [procNum]
    · simp [procNum]
    · simp [procNum]
    · simp [procNum]; rw [U.code hc, N.code hc h0]
    · obtain ⟨p, rfl⟩ : ∃ p, d = 4 + p := ⟨d - 4, by omega⟩
      rw [if_neg (by omega), if_neg (by omega), if_neg (by omega), U.page hc (by omega), N.page hc h0 (by omega), encP_none]
      unfold procNum; rw [if_neg (by omega), if_neg (by omega), if_neg (by omega), if_neg (by omega)]
    · obtain ⟨p, rfl⟩ : ∃ p, d = 8 + p := ⟨d - 8, by omega⟩
      rw [if_neg (by omega), if_neg (by omega), if_neg (by omega), U.file hc (by omega), N.file hc h0 (by omega), encP_none]
      unfold procNum; rw [if_neg (by omega), if_neg (by omega), if_neg (by omega), if_neg (by omega)]
  · rw [if_neg h, if_neg (by omega), if_neg (by omega), if_neg (by omega)]

section
variable {w : World} {B : RB} {r : Rk} {K : Ker}
set_option maxRecDepth 100000 in
set_option maxHeartbeats 2000000 in
theorem life_spawn (M : RMem w B r) (U : Rel K r) (O : Own K) (N : Neat K) (G : Good K) {s c f : Nat} (hs : s < K.nS) (hc : c < K.nS) (hf : f < K.nF) :
    Calls Tryz.prog 40 #[.pointer (some ⟨B.b, 0, none⟩), .int .i64 s, .int .i64 5, .int .i64 c, .int .i64 f] w (REnds B w (kSpawn K s c f)) := by
  have HM : Hid (RMem w B r) := M
  have HU : Hid (Rel K r) := U
  have k1 := M.k1
  have hc' : c < r.nS := by have := U.s; omega
  have i1 : (0 : Int) ≤ (c : Int) := by omega
  have i2 : (c : Int) < (r.nS : Int) := by omega
  have hS : r.nS ≤ 6 := M.hS
  have c1 : w.cell? ⟨B.bp, c * 12, none⟩ = some (.int .i64 (r.P c 0)) := M.pr c 0 hc' (by omega)
  rw [U.kind hc] at c1
  clear M U
  go_enter Tryz.func40, Tryz.ntmps40
  by_cases h0 : K.S c 0 = 0
  · rw [h0] at c1
    by_cases h1 : K.F f 0 = 0
    · have E : Hid (kSpawn K s c f = ⟨(((K.become f 1 c).setS c 0 1).setS c 1 s).setS c 2 f, 0, 0⟩) := by unfold kSpawn Hid; rw [if_neg (by omega), if_neg (by omega)]
      have e0 : (K.F f 0 == 0) = true := by simpa using h1
      go_wp2_with fail
      refine (free_rep HM.out HU.out O N G hf).mono ?_
      rintro e w1 ⟨rfl, rfl⟩
      rw [e0]
      have TH : Hid (w1.there B.bp (c * 12) 12) := HM.out.thereP hc'
      go_wp2_with (refine wpList_store_mid rfl 107 _ _ rfl _ (c * 12) (procCells 1 s f 0).toArray rfl rfl TH.out (by kernel_rfl) (by kernel_rfl) ?_)
      go_ret2
      exact REnds.mk E (HM.out.row hc' (procCells 1 s f 0) (procNum 1 s f 0) rfl (procCells_get 1 s f 0)) (rel_spawn HU.out N hc h0) ((RKeeps.refl _).row _ _)
    · have E : Hid (kSpawn K s c f = ⟨K, 0, 5⟩) := by unfold kSpawn Hid; rw [if_neg (by omega), if_pos (by omega)]
      have e0 : (K.F f 0 == 0) = false := by simpa using h1
      go_wp2_with fail
      refine (free_rep HM.out HU.out O N G hf).mono ?_
      rintro e w1 ⟨rfl, rfl⟩
      rw [e0]
      go_wp2
      go_ret2
      exact REnds.mk E HM.out HU.out (RKeeps.refl _)
  · have E : Hid (kSpawn K s c f = ⟨K, 0, 7⟩) := by unfold kSpawn Hid; rw [if_pos (by omega)]
    have e0 : (K.S c 0 != 0) = true := by simpa using h0
    obtain ⟨v, hv⟩ : ∃ v, K.S c 0 = v := ⟨_, rfl⟩
    rw [hv] at c1 e0
    clear h0 hv
    go_wp2
    go_ret2
    exact REnds.mk E HM.out HU.out (RKeeps.refl _)
end
end Go.Proofs.YtcgabodkegcpgaaGreatDoor
