/- The contracts of cmp.Compare at uint64 and of greatestFirst's comparison. -/
import Derived.Test.YtdiogfjbjdiclaaExA
import Derived.Lib.Small
import Derived.Lib.Walk
namespace Go.Proofs.Ytdiogfjbjdiclaa
open Go.RowKit

theorem isNaN_any (x : Int) (w : World) : Calls Try.prog 44 #[.int .u64 x] w fun e w' => e = .returned (.bool false) ∧ w = w' := by
  go_enter Try.func44, Try.ntmps44
  go_wp2
  go_ret
  exact ⟨ret_bool (by simp), rfl⟩

set_option maxHeartbeats 400000 in
theorem compare_any (x y : Int) (w : World) : Calls Try.prog 42 #[.int .u64 x, .int .u64 y] w fun e w' => e = .returned (.int .i64 (Lib.compareInt x y)) ∧ w' = w := by
  go_enter Try.func42, Try.ntmps42
  go_wp2_with (go_at_call 44; refine (isNaN_any _ _).mono ?_; rintro e w' ⟨rfl, rfl⟩)
  all_goals (go_ret; refine ⟨?_, rfl⟩; unfold Lib.compareInt; (repeat' split) <;> first | rfl | (exfalso; omega))

set_option maxHeartbeats 400000 in
theorem closure_any (B rb ro n cap i j : Nat) (ri rj : Int) (W : World) (hB : W.cell? ⟨B, 0, none⟩ = some (.slice (some ⟨rb, ro, none⟩) n cap))
    (hi : i < n) (hj : j < n) (hn : n < 4611686018427387904) (ci : W.cell? ⟨rb, ro + i, none⟩ = some (.int .u64 ri)) (cj : W.cell? ⟨rb, ro + j, none⟩ = some (.int .u64 rj)) :
    Calls Try.prog 41 #[.int .i64 i, .int .i64 j, .pointer (some ⟨B, 0, none⟩)] W fun e w' =>
      e = .returned (.int .i64 (Lib.compareInt rj ri)) ∧ ∃ q, w' = W.drewN q := by
  have hcon := fun W => compare_any rj ri W
  generalize Lib.compareInt rj ri = r at hcon ⊢
  have b1 : (0 : Int) ≤ (i : Int) := by omega
  have b2 : (i : Int) < (n : Int) := by omega
  have b3 : (0 : Int) ≤ (j : Int) := by omega
  have b4 : (j : Int) < (n : Int) := by omega
  go_enter Try.func41, Try.ntmps41
  go_wp2
  go_quiet ((go_at_call 42; exact Calls.quiet_of_same (hcon _)))
  go_wp2
  go_ret
  exact ⟨rfl, _, rfl⟩

end Go.Proofs.Ytdiogfjbjdiclaa
