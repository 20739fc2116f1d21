/- What the kernel's small functions do, each for every kernel, at numbers that are ones: hasFrame, isFree, mayWrite, isFile, isChild, words, become. -/
import Derived.Test.YtcgabodkegcpgaaDoorProg
import Derived.Test.YtcgabodkegcpgaaDoorSpec
import Derived.WalkSpells
import Derived.WalkLawsBesides
import Derived.BigQuiet
import Derived.BigRegion
namespace Go.Proofs.YtcgabodkegcpgaaDoor
open Go.RowKit
set_option linter.unusedVariables false

section
variable {bk bf bs bd : Nat} {K : Ker} {w : World}

theorem not_isB0 : ¬ isB 0 := by unfold isB; omega
theorem not_isB1 : ¬ isB 1 := by unfold isB; omega
theorem not_isB2 : ¬ isB 2 := by unfold isB; omega
theorem not_isB19 : ¬ isB 19 := by unfold isB; omega
theorem not_isBp (p : Nat) : ¬ isB (3 + p * 2) := by unfold isB; omega
theorem not_isBf (p : Nat) : ¬ isB (11 + p * 2) := by unfold isB; omega
theorem isBp (p : Nat) (h : p < 4) : isB (4 + p * 2) := by unfold isB; omega
theorem isBf (p : Nat) (h : p < 4) : isB (12 + p * 2) := by unfold isB; omega

/- The cells in the walk's own spelling. -/
theorem Rep.fk (R : Rep w bk bf bs bd K) {i : Nat} (hi : i < K.nF) : w.cell? ⟨bf, i * 6, none⟩ = some (.int .i64 (K.F i 0)) := R.f i 0 hi (by omega)
theorem Rep.fo (R : Rep w bk bf bs bd K) {i : Nat} (hi : i < K.nF) : w.cell? ⟨bf, i * 6 + 1, none⟩ = some (.int .i64 (K.F i 1)) := R.f i 1 hi (by omega)
theorem Rep.fw (R : Rep w bk bf bs bd K) {i j : Nat} (hi : i < K.nF) (hj : j < 4) : w.cell? ⟨bf, i * 6 + 2 + j, none⟩ = some (.int .i64 (K.F i (2 + j))) := by
  rw [Nat.add_assoc]; exact R.f i (2 + j) hi (by omega)
theorem Rep.sk (R : Rep w bk bf bs bd K) {i : Nat} (hi : i < K.nS) : w.cell? ⟨bs, i * 20, none⟩ = some (.int .i64 (K.S i 0)) := R.s i 0 hi (by omega) not_isB0
theorem Rep.sp (R : Rep w bk bf bs bd K) {i : Nat} (hi : i < K.nS) : w.cell? ⟨bs, i * 20 + 1, none⟩ = some (.int .i64 (K.S i 1)) := R.s i 1 hi (by omega) not_isB1
theorem Rep.st (R : Rep w bk bf bs bd K) {i : Nat} (hi : i < K.nS) : w.cell? ⟨bs, i * 20 + 2, none⟩ = some (.int .i64 (K.S i 2)) := R.s i 2 hi (by omega) not_isB2
theorem Rep.sc (R : Rep w bk bf bs bd K) {i : Nat} (hi : i < K.nS) : w.cell? ⟨bs, i * 20 + 19, none⟩ = some (.int .i64 (K.S i 19)) := R.s i 19 hi (by omega) not_isB19
theorem Rep.pf (R : Rep w bk bf bs bd K) {i p : Nat} (hi : i < K.nS) (hp : p < 4) : w.cell? ⟨bs, i * 20 + 3 + p * 2, none⟩ = some (.int .i64 (K.S i (3 + p * 2))) := by
  rw [Nat.add_assoc]; exact R.s i _ hi (by omega) (not_isBp p)
theorem Rep.pw (R : Rep w bk bf bs bd K) {i p : Nat} (hi : i < K.nS) (hp : p < 4) : w.cell? ⟨bs, i * 20 + 3 + p * 2 + 1, none⟩ = some (.bool (K.B i (4 + p * 2))) := by
  rw [show i * 20 + 3 + p * 2 + 1 = i * 20 + (4 + p * 2) by omega]; exact R.b i _ hi (isBp p hp)
theorem Rep.ff (R : Rep w bk bf bs bd K) {i p : Nat} (hi : i < K.nS) (hp : p < 4) : w.cell? ⟨bs, i * 20 + 11 + p * 2, none⟩ = some (.int .i64 (K.S i (11 + p * 2))) := by
  rw [Nat.add_assoc]; exact R.s i _ hi (by omega) (not_isBf p)
theorem Rep.fe (R : Rep w bk bf bs bd K) {i p : Nat} (hi : i < K.nS) (hp : p < 4) : w.cell? ⟨bs, i * 20 + 11 + p * 2 + 1, none⟩ = some (.bool (K.B i (12 + p * 2))) := by
  rw [show i * 20 + 11 + p * 2 + 1 = i * 20 + (12 + p * 2) by omega]; exact R.b i _ hi (isBf p hp)

set_option maxHeartbeats 400000 in
theorem isFree_rep (R : Rep w bk bf bs bd K) {i : Nat} (hi : i < K.nF) :
    Calls Tryd.prog 65 #[.pointer (some ⟨bk, 0, none⟩), .int .i64 i] w fun e w' => e = .returned (.bool (K.F i 0 == 0)) ∧ w' = w := by
  have k0 := R.k0; have hc := R.fk hi; have hn := R.hF
  clear R
  go_enter Tryd.func65, Tryd.ntmps65
  go_wp2
  go_ret
  exact ⟨rfl, rfl⟩

set_option maxHeartbeats 400000 in
theorem hasFrame_rep (R : Rep w bk bf bs bd K) {i p : Nat} (hi : i < K.nS) (hp : p < 4) :
    Calls Tryd.prog 64 #[.pointer (some ⟨bk, 0, none⟩), .int .i64 i, .int .i64 p] w fun e w' => e = .returned (.bool (K.S i (3 + p * 2) != -1)) ∧ w' = w := by
  have k0 := R.k1; have hc := R.pf hi hp; have hn := R.hS
  clear R
  go_enter Tryd.func64, Tryd.ntmps64
  go_wp2
  go_ret
  exact ⟨rfl, rfl⟩

set_option maxHeartbeats 400000 in
theorem mayWrite_rep (R : Rep w bk bf bs bd K) {i p : Nat} (hi : i < K.nS) (hp : p < 4) :
    Calls Tryd.prog 68 #[.pointer (some ⟨bk, 0, none⟩), .int .i64 i, .int .i64 p] w fun e w' => e = .returned (.bool (K.B i (4 + p * 2))) ∧ w' = w := by
  have k0 := R.k1; have hc := R.pw hi hp; have hn := R.hS
  clear R
  go_enter Tryd.func68, Tryd.ntmps68
  go_wp2
  go_ret
  exact ⟨rfl, rfl⟩

set_option maxHeartbeats 400000 in
theorem isFile_rep (R : Rep w bk bf bs bd K) {i p : Nat} (hi : i < K.nS) (hp : p < 4) :
    Calls Tryd.prog 70 #[.pointer (some ⟨bk, 0, none⟩), .int .i64 i, .int .i64 p] w fun e w' => e = .returned (.bool (K.S i (11 + p * 2) != -1)) ∧ w' = w := by
  have k0 := R.k1; have hc := R.ff hi hp; have hn := R.hS
  clear R
  go_enter Tryd.func70, Tryd.ntmps70
  go_wp2
  go_ret
  exact ⟨rfl, rfl⟩

set_option maxHeartbeats 400000 in
theorem isChild_rep (R : Rep w bk bf bs bd K) {i : Nat} (q : Int) (hi : i < K.nS) :
    Calls Tryd.prog 72 #[.pointer (some ⟨bk, 0, none⟩), .int .i64 q, .int .i64 i] w fun e w' => e = .returned (.bool (K.S i 1 == q)) ∧ w' = w := by
  have k0 := R.k1; have hc := R.sp hi; have hn := R.hS
  clear R
  go_enter Tryd.func72, Tryd.ntmps72
  go_wp2
  go_ret
  exact ⟨rfl, rfl⟩

set_option maxHeartbeats 400000 in
theorem words_rep (R : Rep w bk bf bs bd K) {i p g : Nat} (hi : i < K.nS) (hp : p < 4) (hg : K.S i (3 + p * 2) = g) (hl : g < K.nF) :
    Calls Tryd.prog 69 #[.pointer (some ⟨bk, 0, none⟩), .int .i64 i, .int .i64 p] w fun e w' => e = .returned (.pointer (some ⟨bf, g * 6 + 2, none⟩)) ∧ ∃ n, w' = w.drewN n := by
  have k0 := R.k0; have k1 := R.k1; have hc := R.pf hi hp; have hn := R.hS; have hm := R.hF
  rw [hg] at hc
  clear R hg
  go_enter Tryd.func69, Tryd.ntmps69
  go_wp2
  go_quiet (fail)
  go_wp2
  go_ret
  exact ⟨rfl, _, rfl⟩

set_option maxHeartbeats 400000 in
theorem become_rep (R : Rep w bk bf bs bd K) {i : Nat} (kd ow : Int) (hi : i < K.nF) :
    Calls Tryd.prog 29 #[.pointer (some ⟨bk, 0, none⟩), .int .i64 i, .int .i64 kd, .int .i64 ow] w fun e w' => e = .returned (.tuple #[]) ∧ Rep w' bk bf bs bd (K.become i kd ow) ∧ Keeps bf bs bd w w' := by
  have k0 := R.k0; have hn := R.hF; have z := R.zf
  have h0 := R.fk hi; have h1 := R.fo hi; have h2 := R.f i 2 hi (by omega); have h3 := R.f i 3 hi (by omega); have h4 := R.f i 4 hi (by omega); have h5 := R.f i 5 hi (by omega)
  have HR : Hid (Rep w bk bf bs bd K) := R
  clear R
  go_enter Tryd.func29, Tryd.ntmps29
  go_wp2
  go_end0
  have R1 := HR.out.setF (c := 0) (o := i * 6) hi (by omega) rfl kd
  have R2 := R1.setF (c := 1) (o := i * 6 + 1) hi (by omega) rfl ow
  have R3 := R2.setF (c := 2) (o := i * 6 + 2) hi (by omega) rfl 0
  have R4 := R3.setF (c := 3) (o := i * 6 + 3) hi (by omega) rfl 0
  have R5 := R4.setF (c := 4) (o := i * 6 + 4) hi (by omega) rfl 0
  have R6 := R5.setF (c := 5) (o := i * 6 + 5) hi (by omega) rfl 0
  exact ⟨rfl, R6, ((((((Keeps.refl w).setF _ _).setF _ _).setF _ _).setF _ _).setF _ _).setF _ _⟩
end
end Go.Proofs.YtcgabodkegcpgaaDoor
