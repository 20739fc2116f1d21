/- The kernel's switch over the calls, at the others; and Call at whatever numbers. -/
import Derived.Test.YtcgabodkegcpgaaGreatDoorSix
import Derived.Test.YtcgabodkegcpgaaGreatDoorCls2
import Derived.Test.YtcgabodkegcpgaaGreatDoorExi
import Derived.Test.YtcgabodkegcpgaaGreatDoorCpy
import Derived.Test.YtcgabodkegcpgaaGreatDoorRpp
namespace Go.Proofs.YtcgabodkegcpgaaGreatDoor
open Go.RowKit
set_option linter.unusedVariables false
section
variable {bk bf bs bd : Nat} {K : Ker} {w : World} {s : Nat}

set_option maxRecDepth 100000 in
set_option maxHeartbeats 1000000 in
theorem do_yield (R : Rep w bk bf bs bd K) (a b c : Int) :
    Calls Tryz.prog 36 #[.pointer (some ⟨bk, 0, none⟩), .int .i64 s, .int .i64 1, .agg #[.int .i64 a, .int .i64 b, .int .i64 c]] w (Ends bk bf bs bd w ⟨K, 0, 0⟩) := by
  have HR : Hid (Rep w bk bf bs bd K) := R
  clear R
  go_enter Tryz.func36, Tryz.ntmps36
  go_wp2
  go_ret2
  exact Ends.mk (show Hid _ from rfl) (HR.out.alloc _) ((Keeps.refl w).alloc _)

set_option maxRecDepth 100000 in
set_option maxHeartbeats 1000000 in
theorem do_none (R : Rep w bk bf bs bd K) (a b c : Int) :
    Calls Tryz.prog 36 #[.pointer (some ⟨bk, 0, none⟩), .int .i64 s, .int .i64 0, .agg #[.int .i64 a, .int .i64 b, .int .i64 c]] w (Ends bk bf bs bd w ⟨K, 0, 2⟩) := by
  have HR : Hid (Rep w bk bf bs bd K) := R
  clear R
  go_enter Tryz.func36, Tryz.ntmps36
  go_wp2
  go_ret2
  exact Ends.mk (show Hid _ from rfl) (HR.out.alloc _) ((Keeps.refl w).alloc _)

set_option maxHeartbeats 1000000 in
theorem do_unmap (R : Rep w bk bf bs bd K) (G : Good K) {a : Nat} (b c : Int) (hs : s < K.nS) (ha : a < 4) :
    Calls Tryz.prog 36 #[.pointer (some ⟨bk, 0, none⟩), .int .i64 s, .int .i64 3, .agg #[.int .i64 a, .int .i64 b, .int .i64 c]] w (Ends bk bf bs bd w (kUnmap K s a)) := by
  have HR : Hid (Rep w bk bf bs bd K) := R
  clear R
  go_enter Tryz.func36, Tryz.ntmps36
  go_wp2_with fail
  refine (unmap_rep (HR.out.alloc _) G b c hs ha).mono ?_
  rintro e w1 ⟨rfl, R1, q1⟩
  go_wp2
  go_ret2
  exact ⟨rfl, R1, ((Keeps.refl w).alloc _).trans q1⟩

set_option maxHeartbeats 1000000 in
theorem do_protect (R : Rep w bk bf bs bd K) {a : Nat} (b c : Int) (hs : s < K.nS) (ha : a < 4) :
    Calls Tryz.prog 36 #[.pointer (some ⟨bk, 0, none⟩), .int .i64 s, .int .i64 4, .agg #[.int .i64 a, .int .i64 b, .int .i64 c]] w (Ends bk bf bs bd w (kProtect K s a b)) := by
  have HR : Hid (Rep w bk bf bs bd K) := R
  clear R
  go_enter Tryz.func36, Tryz.ntmps36
  go_wp2_with fail
  refine (protect_rep (HR.out.alloc _) b c hs ha).mono ?_
  rintro e w1 ⟨rfl, R1, q1⟩
  go_wp2
  go_ret2
  exact ⟨rfl, R1, ((Keeps.refl w).alloc _).trans q1⟩

set_option maxHeartbeats 1000000 in
theorem do_spawn (R : Rep w bk bf bs bd K) {a b : Nat} (c : Int) (hs : s < K.nS) (ha : a < K.nS) (hb : b < K.nF) :
    Calls Tryz.prog 36 #[.pointer (some ⟨bk, 0, none⟩), .int .i64 s, .int .i64 5, .agg #[.int .i64 a, .int .i64 b, .int .i64 c]] w (Ends bk bf bs bd w (kSpawn K s a b)) := by
  have HR : Hid (Rep w bk bf bs bd K) := R
  clear R
  go_enter Tryz.func36, Tryz.ntmps36
  go_wp2_with fail
  refine (spawn_rep (HR.out.alloc _) c hs ha hb).mono ?_
  rintro e w1 ⟨rfl, R1, q1⟩
  go_wp2
  go_ret2
  exact ⟨rfl, R1, ((Keeps.refl w).alloc _).trans q1⟩

set_option maxHeartbeats 1000000 in
theorem do_copy (R : Rep w bk bf bs bd K) (G : Good K) {a b c : Nat} (hs : s < K.nS) (ha : a < K.nS) (hb : b < 4) (hc : c < K.nF) :
    Calls Tryz.prog 36 #[.pointer (some ⟨bk, 0, none⟩), .int .i64 s, .int .i64 6, .agg #[.int .i64 a, .int .i64 b, .int .i64 c]] w (Ends bk bf bs bd w (kCopy K s a b c)) := by
  have HR : Hid (Rep w bk bf bs bd K) := R
  clear R
  go_enter Tryz.func36, Tryz.ntmps36
  go_wp2_with fail
  refine (copy_rep (HR.out.alloc _) G hs ha hb hc).mono ?_
  rintro e w1 ⟨rfl, R1, q1⟩
  go_wp2
  go_ret2
  exact ⟨rfl, R1, ((Keeps.refl w).alloc _).trans q1⟩

set_option maxHeartbeats 1000000 in
theorem do_give (R : Rep w bk bf bs bd K) (G : Good K) {a b c : Nat} (hs : s < K.nS) (ha : a < K.nS) (hb : b < 4) (hc : c < 4) :
    Calls Tryz.prog 36 #[.pointer (some ⟨bk, 0, none⟩), .int .i64 s, .int .i64 7, .agg #[.int .i64 a, .int .i64 b, .int .i64 c]] w (Ends bk bf bs bd w (kGive K s a b c)) := by
  have HR : Hid (Rep w bk bf bs bd K) := R
  clear R
  go_enter Tryz.func36, Tryz.ntmps36
  go_wp2_with fail
  refine (give_rep (HR.out.alloc _) G hs ha hb hc).mono ?_
  rintro e w1 ⟨rfl, R1, q1⟩
  go_wp2
  go_ret2
  exact ⟨rfl, R1, ((Keeps.refl w).alloc _).trans q1⟩

set_option maxHeartbeats 1000000 in
theorem do_start (R : Rep w bk bf bs bd K) {a : Nat} (b c : Int) (hs : s < K.nS) (ha : a < K.nS) :
    Calls Tryz.prog 36 #[.pointer (some ⟨bk, 0, none⟩), .int .i64 s, .int .i64 8, .agg #[.int .i64 a, .int .i64 b, .int .i64 c]] w (Ends bk bf bs bd w (kStart K s a)) := by
  have HR : Hid (Rep w bk bf bs bd K) := R
  clear R
  go_enter Tryz.func36, Tryz.ntmps36
  go_wp2_with fail
  refine (start_rep (HR.out.alloc _) b c hs ha).mono ?_
  rintro e w1 ⟨rfl, R1, q1⟩
  go_wp2
  go_ret2
  exact ⟨rfl, R1, ((Keeps.refl w).alloc _).trans q1⟩

set_option maxHeartbeats 1000000 in
theorem do_exit (R : Rep w bk bf bs bd K) (a b c : Int) (hs : s < K.nS) :
    Calls Tryz.prog 36 #[.pointer (some ⟨bk, 0, none⟩), .int .i64 s, .int .i64 9, .agg #[.int .i64 a, .int .i64 b, .int .i64 c]] w (Ends bk bf bs bd w (kExit K s a)) := by
  have HR : Hid (Rep w bk bf bs bd K) := R
  clear R
  go_enter Tryz.func36, Tryz.ntmps36
  go_wp2_with fail
  refine (exit_rep (HR.out.alloc _) a b c hs).mono ?_
  rintro e w1 ⟨rfl, R1, q1⟩
  go_wp2
  go_ret2
  exact ⟨rfl, R1, ((Keeps.refl w).alloc _).trans q1⟩

set_option maxHeartbeats 1000000 in
theorem do_drop (R : Rep w bk bf bs bd K) (G : Good K) {a b : Nat} (c : Int) (hs : s < K.nS) (ha : a < K.nS) (hb : b < 4) :
    Calls Tryz.prog 36 #[.pointer (some ⟨bk, 0, none⟩), .int .i64 s, .int .i64 10, .agg #[.int .i64 a, .int .i64 b, .int .i64 c]] w (Ends bk bf bs bd w (kDrop K s a b)) := by
  have HR : Hid (Rep w bk bf bs bd K) := R
  clear R
  go_enter Tryz.func36, Tryz.ntmps36
  go_wp2_with fail
  refine (drop_rep (HR.out.alloc _) G c hs ha hb).mono ?_
  rintro e w1 ⟨rfl, R1, q1⟩
  go_wp2
  go_ret2
  exact ⟨rfl, R1, ((Keeps.refl w).alloc _).trans q1⟩

set_option maxHeartbeats 1000000 in
theorem do_shut (R : Rep w bk bf bs bd K) (G : Good K) {a b : Nat} (c : Int) (hs : s < K.nS) (ha : a < K.nS) (hb : b < 4) :
    Calls Tryz.prog 36 #[.pointer (some ⟨bk, 0, none⟩), .int .i64 s, .int .i64 11, .agg #[.int .i64 a, .int .i64 b, .int .i64 c]] w (Ends bk bf bs bd w (kShut K s a b)) := by
  have HR : Hid (Rep w bk bf bs bd K) := R
  clear R
  go_enter Tryz.func36, Tryz.ntmps36
  go_wp2_with fail
  refine (shut_rep (HR.out.alloc _) G c hs ha hb).mono ?_
  rintro e w1 ⟨rfl, R1, q1⟩
  go_wp2
  go_ret2
  exact ⟨rfl, R1, ((Keeps.refl w).alloc _).trans q1⟩

set_option maxHeartbeats 1000000 in
theorem do_reap (R : Rep w bk bf bs bd K) (G : Good K) {a : Nat} (b c : Int) (hs : s < K.nS) (ha : a < K.nS) :
    Calls Tryz.prog 36 #[.pointer (some ⟨bk, 0, none⟩), .int .i64 s, .int .i64 12, .agg #[.int .i64 a, .int .i64 b, .int .i64 c]] w (Ends bk bf bs bd w (kReap K s a)) := by
  have HR : Hid (Rep w bk bf bs bd K) := R
  clear R
  go_enter Tryz.func36, Tryz.ntmps36
  go_wp2_with fail
  refine (reap_rep (HR.out.alloc _) G b c hs ha).mono ?_
  rintro e w1 ⟨rfl, R1, q1⟩
  go_wp2
  go_ret2
  exact ⟨rfl, R1, ((Keeps.refl w).alloc _).trans q1⟩

set_option maxHeartbeats 1000000 in
theorem do_dup (R : Rep w bk bf bs bd K) (G : Good K) {a b : Nat} (c : Int) (hs : s < K.nS) (ha : a < 4) (hb : b < 4) :
    Calls Tryz.prog 36 #[.pointer (some ⟨bk, 0, none⟩), .int .i64 s, .int .i64 14, .agg #[.int .i64 a, .int .i64 b, .int .i64 c]] w (Ends bk bf bs bd w (kDup K s a b)) := by
  have HR : Hid (Rep w bk bf bs bd K) := R
  clear R
  go_enter Tryz.func36, Tryz.ntmps36
  go_wp2_with fail
  refine (dup_rep (HR.out.alloc _) G c hs ha hb).mono ?_
  rintro e w1 ⟨rfl, R1, q1⟩
  go_wp2
  go_ret2
  exact ⟨rfl, R1, ((Keeps.refl w).alloc _).trans q1⟩

set_option maxHeartbeats 1000000 in
theorem do_close (R : Rep w bk bf bs bd K) (G : Good K) {a : Nat} (b c : Int) (hs : s < K.nS) (ha : a < 4) :
    Calls Tryz.prog 36 #[.pointer (some ⟨bk, 0, none⟩), .int .i64 s, .int .i64 15, .agg #[.int .i64 a, .int .i64 b, .int .i64 c]] w (Ends bk bf bs bd w (kClose K s a)) := by
  have HR : Hid (Rep w bk bf bs bd K) := R
  clear R
  go_enter Tryz.func36, Tryz.ntmps36
  go_wp2_with fail
  refine (close_rep (HR.out.alloc _) G b c hs ha).mono ?_
  rintro e w1 ⟨rfl, R1, q1⟩
  go_wp2
  go_ret2
  exact ⟨rfl, R1, ((Keeps.refl w).alloc _).trans q1⟩

theorem do_all (R : Rep w bk bf bs bd K) (G : Good K) (slot call a b c : Int) (s n : Nat) (h1 : slot = s) (h2 : call = n) (hs : s < K.nS) (hn : n < 20)
    (hf : fits K ((argKinds n).getD 0 0) a = true ∧ fits K ((argKinds n).getD 1 0) b = true ∧ fits K ((argKinds n).getD 2 0) c = true) :
    Calls Tryz.prog 36 #[.pointer (some ⟨bk, 0, none⟩), .int .i64 slot, .int .i64 call, .agg #[.int .i64 a, .int .i64 b, .int .i64 c]] w (Ends bk bf bs bd w (kDo K s n a b c)) := by
  by_cases h6 : Six call
  · exact do_six R G slot call a b c h6 s n h1 h2 hs hf
  obtain ⟨f0, f1, f2⟩ := hf
  subst h1
  unfold Six at h6
  obtain rfl | rfl | rfl | rfl | rfl | rfl | rfl | rfl | rfl | rfl | rfl | rfl | rfl | rfl : n = 0 ∨ n = 1 ∨ n = 3 ∨ n = 4 ∨ n = 5 ∨ n = 6 ∨ n = 7 ∨ n = 8 ∨ n = 9 ∨ n = 10 ∨ n = 11 ∨ n = 12 ∨ n = 14 ∨ n = 15 := by omega
  all_goals subst h2
  · exact do_none R a b c
  · exact do_yield R a b c
  · obtain ⟨a', rfl, ha⟩ := fits_is (t := 4) f0 (by decide)
    exact do_unmap R G b c hs (by have h4 : howMany K 4 = 4 := rfl; omega)
  · obtain ⟨a', rfl, ha⟩ := fits_is (t := 4) f0 (by decide)
    exact do_protect R b c hs (by have h4 : howMany K 4 = 4 := rfl; omega)
  · obtain ⟨a', rfl, ha⟩ := fits_is (t := 2) f0 (by decide)
    obtain ⟨b', rfl, hb⟩ := fits_is (t := 1) f1 (by decide)
    exact do_spawn R c hs (by have h4 : howMany K 2 = K.nS := rfl; omega) (by have h4 : howMany K 1 = K.nF := rfl; omega)
  · obtain ⟨a', rfl, ha⟩ := fits_is (t := 2) f0 (by decide)
    obtain ⟨b', rfl, hb⟩ := fits_is (t := 4) f1 (by decide)
    obtain ⟨c', rfl, hc⟩ := fits_is (t := 1) f2 (by decide)
    exact do_copy R G hs (by have h4 : howMany K 2 = K.nS := rfl; omega) (by have h4 : howMany K 4 = 4 := rfl; omega) (by have h4 : howMany K 1 = K.nF := rfl; omega)
  · obtain ⟨a', rfl, ha⟩ := fits_is (t := 2) f0 (by decide)
    obtain ⟨b', rfl, hb⟩ := fits_is (t := 5) f1 (by decide)
    obtain ⟨c', rfl, hc⟩ := fits_is (t := 5) f2 (by decide)
    exact do_give R G hs (by have h4 : howMany K 2 = K.nS := rfl; omega) (by have h4 : howMany K 5 = 4 := rfl; omega) (by have h4 : howMany K 5 = 4 := rfl; omega)
  · obtain ⟨a', rfl, ha⟩ := fits_is (t := 2) f0 (by decide)
    exact do_start R b c hs (by have h4 : howMany K 2 = K.nS := rfl; omega)
  · exact do_exit R a b c hs
  · obtain ⟨a', rfl, ha⟩ := fits_is (t := 2) f0 (by decide)
    obtain ⟨b', rfl, hb⟩ := fits_is (t := 4) f1 (by decide)
    exact do_drop R G c hs (by have h4 : howMany K 2 = K.nS := rfl; omega) (by have h4 : howMany K 4 = 4 := rfl; omega)
  · obtain ⟨a', rfl, ha⟩ := fits_is (t := 2) f0 (by decide)
    obtain ⟨b', rfl, hb⟩ := fits_is (t := 5) f1 (by decide)
    exact do_shut R G c hs (by have h4 : howMany K 2 = K.nS := rfl; omega) (by have h4 : howMany K 5 = 4 := rfl; omega)
  · obtain ⟨a', rfl, ha⟩ := fits_is (t := 2) f0 (by decide)
    exact do_reap R G b c hs (by have h4 : howMany K 2 = K.nS := rfl; omega)
  · obtain ⟨a', rfl, ha⟩ := fits_is (t := 5) f0 (by decide)
    obtain ⟨b', rfl, hb⟩ := fits_is (t := 5) f1 (by decide)
    exact do_dup R G c hs (by have h4 : howMany K 5 = 4 := rfl; omega) (by have h4 : howMany K 5 = 4 := rfl; omega)
  · obtain ⟨a', rfl, ha⟩ := fits_is (t := 5) f0 (by decide)
    exact do_close R G b c hs (by have h4 : howMany K 5 = 4 := rfl; omega)

theorem call_all (R : Rep w bk bf bs bd K) (T : Tab w) (G : Good K) (slot call a b c : Int) :
    Calls Tryz.prog 16 #[.pointer (some ⟨bk, 0, none⟩), .int .i64 slot, .int .i64 call, .agg #[.int .i64 a, .int .i64 b, .int .i64 c]] w (Ends bk bf bs bd w (kCall K slot call a b c)) :=
  call_rep R T slot call a b c (fun s n h1 h2 hs hn hf w1 R1 => do_all R1 G slot call a b c s n h1 h2 hs hn hf)
end
end Go.Proofs.YtcgabodkegcpgaaGreatDoor
