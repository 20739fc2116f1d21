/- The kernel's switch over the calls, at Map, Pipe, Write, Read, Load, Store. -/
import Derived.Test.YtcgabodkegcpgaaGreatDoorRea
namespace Go.Proofs.YtcgabodkegcpgaaGreatDoor
open Go.RowKit
set_option linter.unusedVariables false
section
variable {bk bf bs bd : Nat} {K : Ker} {w : World} {s : Nat}

/-- What was done behind a step is done behind both. -/
theorem Ends.behind {w0 w1 w' : World} {r : Out} {e : Ending} (k : Keeps bf bs bd w0 w1) (h : Ends bk bf bs bd w1 r e w') : Ends bk bf bs bd w0 r e w' := ⟨h.1, h.2.1, k.trans h.2.2⟩

set_option maxHeartbeats 1000000 in
theorem do_map (R : Rep w bk bf bs bd K) {a b : Nat} (c : Int) (hs : s < K.nS) (ha : a < 4) (hb : b < K.nF) :
    Calls Tryz.prog 36 #[.pointer (some ⟨bk, 0, none⟩), .int .i64 s, .int .i64 2, .agg #[.int .i64 a, .int .i64 b, .int .i64 c]] w (Ends bk bf bs bd w (kMap K s a b)) := by
  have HR : Hid (Rep w bk bf bs bd K) := R
  clear R
  go_enter Tryz.func36, Tryz.ntmps36
  go_wp2_with fail
  refine (map_rep (HR.out.alloc _) c hs ha hb).mono ?_
  rintro e w1 ⟨rfl, R1, q1⟩
  go_wp2
  go_ret2
  exact ⟨rfl, R1, ((Keeps.refl w).alloc _).trans q1⟩

set_option maxHeartbeats 1000000 in
theorem do_pipe (R : Rep w bk bf bs bd K) (G : Good K) {a b c : Nat} (hs : s < K.nS) (ha : a < K.nD) (hb : b < K.nF) (hc : c < 4) :
    Calls Tryz.prog 36 #[.pointer (some ⟨bk, 0, none⟩), .int .i64 s, .int .i64 13, .agg #[.int .i64 a, .int .i64 b, .int .i64 c]] w (Ends bk bf bs bd w (kPipe K s a b c)) := by
  have HR : Hid (Rep w bk bf bs bd K) := R
  clear R
  go_enter Tryz.func36, Tryz.ntmps36
  go_wp2_with fail
  refine (pipe_rep (HR.out.alloc _) G hs ha hb hc).mono ?_
  rintro e w1 ⟨rfl, R1, q1⟩
  go_wp2
  go_ret2
  exact ⟨rfl, R1, ((Keeps.refl w).alloc _).trans q1⟩

set_option maxHeartbeats 1000000 in
theorem do_write (R : Rep w bk bf bs bd K) (G : Good K) {a b c : Nat} (hs : s < K.nS) (ha : a < 4) (hb : b < 4) (hc : c < 4) :
    Calls Tryz.prog 36 #[.pointer (some ⟨bk, 0, none⟩), .int .i64 s, .int .i64 16, .agg #[.int .i64 a, .int .i64 b, .int .i64 c]] w (Ends bk bf bs bd w (kWrite K s a b c)) := by
  have HR : Hid (Rep w bk bf bs bd K) := R
  clear R
  go_enter Tryz.func36, Tryz.ntmps36
  go_wp2_with fail
  refine (write_rep (HR.out.alloc _) G hs ha hb hc).mono ?_
  rintro e w1 ⟨rfl, R1, q1⟩
  go_wp2
  go_ret2
  exact ⟨rfl, R1, ((Keeps.refl w).alloc _).trans q1⟩

set_option maxHeartbeats 1000000 in
theorem do_read (R : Rep w bk bf bs bd K) (G : Good K) {a b c : Nat} (hs : s < K.nS) (ha : a < 4) (hb : b < 4) (hc : c < 4) :
    Calls Tryz.prog 36 #[.pointer (some ⟨bk, 0, none⟩), .int .i64 s, .int .i64 17, .agg #[.int .i64 a, .int .i64 b, .int .i64 c]] w (Ends bk bf bs bd w (kRead K s a b c)) := by
  have HR : Hid (Rep w bk bf bs bd K) := R
  clear R
  go_enter Tryz.func36, Tryz.ntmps36
  go_wp2_with fail
  refine (read_rep (HR.out.alloc _) G hs ha hb hc).mono ?_
  rintro e w1 ⟨rfl, R1, q1⟩
  go_wp2
  go_ret2
  exact ⟨rfl, R1, ((Keeps.refl w).alloc _).trans q1⟩

set_option maxHeartbeats 1000000 in
theorem do_load (R : Rep w bk bf bs bd K) (G : Good K) {a b : Nat} (c : Int) (hs : s < K.nS) (ha : a < 4) (hb : b < 4) :
    Calls Tryz.prog 36 #[.pointer (some ⟨bk, 0, none⟩), .int .i64 s, .int .i64 18, .agg #[.int .i64 a, .int .i64 b, .int .i64 c]] w (Ends bk bf bs bd w (kLoad K s a b)) := by
  have HR : Hid (Rep w bk bf bs bd K) := R
  clear R
  go_enter Tryz.func36, Tryz.ntmps36
  go_wp2_with fail
  refine (load_rep (HR.out.alloc _) G c hs ha hb).mono ?_
  rintro e w1 ⟨rfl, R1, q1⟩
  go_wp2
  go_ret2
  exact ⟨rfl, R1, ((Keeps.refl w).alloc _).trans q1⟩

set_option maxHeartbeats 1000000 in
theorem do_store (R : Rep w bk bf bs bd K) (G : Good K) {a b : Nat} (c : Int) (hs : s < K.nS) (ha : a < 4) (hb : b < 4) :
    Calls Tryz.prog 36 #[.pointer (some ⟨bk, 0, none⟩), .int .i64 s, .int .i64 19, .agg #[.int .i64 a, .int .i64 b, .int .i64 c]] w (Ends bk bf bs bd w (kStore K s a b c)) := by
  have HR : Hid (Rep w bk bf bs bd K) := R
  clear R
  go_enter Tryz.func36, Tryz.ntmps36
  go_wp2_with fail
  refine (store_rep (HR.out.alloc _) G c hs ha hb).mono ?_
  rintro e w1 ⟨rfl, R1, q1⟩
  go_wp2
  go_ret2
  exact ⟨rfl, R1, ((Keeps.refl w).alloc _).trans q1⟩
end
end Go.Proofs.YtcgabodkegcpgaaGreatDoor
