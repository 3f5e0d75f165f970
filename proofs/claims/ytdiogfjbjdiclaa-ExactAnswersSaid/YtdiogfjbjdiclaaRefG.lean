/- The reference's Shares where all is in range. -/
import Derived.Test.YtdiogfjbjdiclaaRefF
import Derived.RegionTactic
namespace Go.Proofs.Ytdiogfjbjdiclaa
open Go.RowKit

/-- The world behind the two rows. -/
def twoRows (w : World) (n : Nat) : World := ((w.alloc (.cells (madeCells #[.int .i64 0] n) 3)).alloc (.cells (madeCells #[.int .i64 0] n) 3)).drew

theorem rows_below (w : World) (n : Nat) : Below w.heap.size w (twoRows w n) := by
  have h := ((Below.refl w.heap.size w).alloc (Nat.le_refl _) (.cells (madeCells #[.int .i64 0] n) 3)).alloc (by simp) (.cells (madeCells #[.int .i64 0] n) 3)
  exact ⟨h.os, h.tape, h.output, h.size, h.block⟩
theorem rows_two (w : World) (n : Nat) : (twoRows w n).rowIs w.heap.size 3 n (fun _ => .int .i64 0) ∧ (twoRows w n).rowIs (w.heap.size + 1) 3 n (fun _ => .int .i64 0) := by
  have h1 := (World.rowIs_made w (.int .i64 0) n 3).alloc (.cells (madeCells #[.int .i64 0] n) 3)
  have h2 := World.rowIs_made (w.alloc (.cells (madeCells #[.int .i64 0] n) 3)) (.int .i64 0) n 3
  rw [World.size_alloc] at h2
  exact ⟨h1, h2⟩
theorem rows_size (w : World) (n : Nat) : (twoRows w n).heap.size = w.heap.size + 2 := by
  show ((w.alloc _).alloc _).heap.size = _
  simp

set_option maxHeartbeats 1000000 in
theorem refShares_zero (T : Nat) (hT : T ≤ 1099511627776) (n : Nat) (hn : n < 65) (p : Option Addr) (cap wb wo : Nat) (w : World) (hp : 0 < n → p = some ⟨wb, wo, none⟩) (hw : ∀ j, j < n → w.cell? ⟨wb, wo + j, none⟩ = some (.int .i64 0)) :
    Calls Try.prog 24 #[.int .i64 T, .slice p n cap] w fun e w' => ∃ b, e = .returned (.tuple #[.slice (some ⟨b, 0, none⟩) n n, .int .i64 0]) ∧ Below w.heap.size w w' ∧ w'.rowIs b 3 n (fun _ => .int .i64 0) := by
  have hnz : ¬ (64 : Int) < (n : Int) := by omega
  have hT0 : ¬ (T : Int) < 0 := by omega
  have hT1 : ¬ 1099511627776 < (T : Int) := by omega
  have hmk := fun w => run_make_row' (P := Try.prog) 22 3 (.int .i64 0) 8 Try.underlying22 info_int rfl .i64 .i64 n (by omega) (by omega) w
  have HW := Lib.hid hw
  have HP := Lib.hid hp
  have HMK := Lib.hid hmk
  clear hw hp hmk
  go_enter Try.func24, Try.ntmps24
  go_wp2_with fail
  go_loop [7, 31] (fun s v => ∃ j : Nat, j ≤ n ∧ v = .int .i64 j ∧ s = .bool false) (fun _ v => n - (intOf v).toNat)
  case atStart => exact ⟨0, Nat.zero_le _, rfl, rfl⟩
  case round =>
    obtain ⟨j, hj, rfl, rfl⟩ := hrel
    by_cases hlt : j < n
    · obtain rfl := HP.out (by omega)
      have hc := HW.out j hlt
      have hlt' : (j : Int) < (n : Int) := by omega
      go_wp2_with fail
      go_round
      case rel => exact ⟨j + 1, by omega, by go_num, rfl⟩
      case measure => simp [intOf]; omega
    · obtain rfl : j = n := by omega
      go_wp2_with fail
      go_loop [6, 48] (fun s v => ∃ j2 : Nat, j2 ≤ j ∧ v = .int .i64 j2 ∧ s = .int .i64 0) (fun _ v => j - (intOf v).toNat)
      case atStart => exact ⟨0, Nat.zero_le _, rfl, rfl⟩
      case round =>
        obtain ⟨i, hi, rfl, rfl⟩ := hrel
        by_cases hlt : i < j
        · obtain rfl := HP.out (by omega)
          have hc := HW.out i hlt
          have hlt' : (i : Int) < (j : Int) := by omega
          go_wp2_with fail
          go_round
          case rel => exact ⟨i + 1, by omega, by go_num, by go_num⟩
          case measure => simp [intOf]; omega
        · obtain rfl : i = j := by omega
          have hmk := HMK.out
          go_wp2_with fail
          go_region
          all_goals (
            go_wp2_with fail
            go_ret2
            first | exact ⟨_, rfl, rows_below w i, (rows_two w i).1⟩ | exact ⟨_, rfl, rows_below w i, (rows_two w i).2⟩)
end Go.Proofs.Ytdiogfjbjdiclaa
