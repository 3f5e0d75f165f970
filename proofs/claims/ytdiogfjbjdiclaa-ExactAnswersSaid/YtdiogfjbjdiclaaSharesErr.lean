/- The errors of exact.Shares. -/
import Derived.Test.YtdiogfjbjdiclaaShareLaw
namespace Go.Proofs.Ytdiogfjbjdiclaa
open Go.RowKit Go.Sort Go.Shelf Go.Lib

set_option maxHeartbeats 400000 in
theorem shares_limit (T : Int) (n : Nat) (hn : 64 < n) (p : Option Addr) (cap : Nat) (w : World) :
    Calls Try.prog 23 #[.int .i64 T, .slice p n cap] w fun e w' => e = .returned (.tuple #[.slice none 0 0, .int .i64 1]) ∧ w = w' := by
  have hnz : (64 : Int) < (n : Int) := by omega
  go_enter Try.func23, Try.ntmps23
  go_wp2_with fail
  go_ret2
  exact ⟨rfl, rfl⟩

set_option maxHeartbeats 400000 in
theorem shares_total (T : Int) (n : Nat) (hn : n < 65) (hT : amtB T = false) (p : Option Addr) (cap : Nat) (w : World) :
    Calls Try.prog 23 #[.int .i64 T, .slice p n cap] w fun e w' => e = .returned (.tuple #[.slice none 0 0, .int .i64 2]) ∧ w = w' := by
  have hnz : ¬ (64 : Int) < (n : Int) := by omega
  go_enter Try.func23, Try.ntmps23
  go_wp2_with (go_at_call 26; (with_reducible refine (amount_any _ _).mono ?_); rintro e w' ⟨rfl, rfl⟩)
  go_ret2
  exact ⟨rfl, rfl⟩

set_option maxHeartbeats 400000 in
theorem shares_weight (T : Int) (n : Nat) (hn : n < 65) (hT : amtB T = true) (wb wo cap : Nat) (g : Nat → Int) (w : World) (hw : ∀ j, j < n → w.cell? ⟨wb, wo + j, none⟩ = some (.int .i64 (g j)))
    (m : Nat) (hm : m < n) (hok : ∀ j, j < m → amtB (g j) = true) (hbad : amtB (g m) = false) :
    Calls Try.prog 23 #[.int .i64 T, .slice (some ⟨wb, wo, none⟩) n cap] w fun e w' => e = .returned (.tuple #[.slice none 0 0, .int .i64 2]) ∧ w = w' := by
  have hnz : ¬ (64 : Int) < (n : Int) := by omega
  have HW := Lib.hid hw
  have HOK := Lib.hid hok
  clear hw hok
  go_enter Try.func23, Try.ntmps23
  go_wp2_with (go_at_call 26; (with_reducible refine (amount_any _ _).mono ?_); rintro e w' ⟨rfl, rfl⟩)
  go_loop [6, 17] (fun s v => ∃ (j : Nat) (x : Int), j ≤ m ∧ v = .int .i64 j ∧ s = .int .i64 x ∧ 0 ≤ x ∧ x ≤ j * 1099511627776) (fun _ v => n - (intOf v).toNat)
  case atStart => exact ⟨0, 0, Nat.zero_le _, rfl, rfl, by omega, by omega⟩
  case round =>
    obtain ⟨j, x, hj, rfl, rfl, hx0, hx⟩ := hrel
    have hc := HW.out j (by omega)
    have hjn : (j : Int) < (n : Int) := by omega
    by_cases hlt : j = m
    · subst hlt
      go_wp2_with (go_at_call 26; (with_reducible refine (amount_any _ _).mono ?_); rintro e w' ⟨rfl, rfl⟩)
      go_ret2
      exact ⟨rfl, rfl⟩
    · have hA := HOK.out j (by omega)
      obtain ⟨a1, a2⟩ := amtB_iff.1 hA
      have hj2 : j + 1 ≤ m := by omega
      clear hlt
      generalize g j = gj at *
      go_wp2_with (go_at_call 26; (with_reducible refine (amount_any _ _).mono ?_); rintro e w' ⟨rfl, rfl⟩)
      go_round
      case rel => exact ⟨j + 1, x + gj, hj2, by go_num, by go_num, by omega, by omega⟩
      case measure => simp [intOf]; omega

end Go.Proofs.Ytdiogfjbjdiclaa
