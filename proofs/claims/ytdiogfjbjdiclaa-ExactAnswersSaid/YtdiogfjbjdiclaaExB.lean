/- The contracts of package exact's rounding functions, of Less and of its product. -/
import Derived.Test.YtdiogfjbjdiclaaExA
namespace Go.Proofs.Ytdiogfjbjdiclaa
open Go.RowKit

set_option maxHeartbeats 400000 in
theorem down_any (a b : Int) (w : World) :
    Calls Try.prog 15 #[.int .i64 a, .int .i64 b] w fun e w' => e = .returned (.int .i64 (downI a b)) ∧ w = w' := by
  have hF := fraction_any a b
  by_cases h : fracB a b = true
  · obtain ⟨⟨h1, h2⟩, h3, h4⟩ := fracB_iff.1 h
    have hd : downI a b = a / b := by simp [downI, h]
    rw [hd]
    clear hd
    simp only [h] at hF
    clear h
    go_enter Try.func15, Try.ntmps15
    go_wp2_with (first
      | (go_at_call 31; refine (hF _).mono ?_; rintro e w' ⟨rfl, rfl⟩)
      | (go_at_call 32; refine (floor_any _ _ _ (by omega) (by omega) (by omega)).mono ?_; rintro e w' ⟨rfl, rfl⟩))
    go_ret
    exact ⟨rfl, rfl⟩
  · have h' : fracB a b = false := by simpa using h
    have hd : downI a b = 0 := by simp [downI, h']
    rw [hd]
    clear hd
    simp only [h'] at hF
    clear h h'
    go_enter Try.func15, Try.ntmps15
    go_wp2_with (go_at_call 31; refine (hF _).mono ?_; rintro e w' ⟨rfl, rfl⟩)
    go_ret
    exact ⟨rfl, rfl⟩

set_option maxHeartbeats 400000 in
theorem up_any (a b : Int) (w : World) :
    Calls Try.prog 17 #[.int .i64 a, .int .i64 b] w fun e w' => e = .returned (.int .i64 (upI a b)) ∧ w = w' := by
  have hF := fraction_any a b
  by_cases h : fracB a b = true
  · obtain ⟨⟨h1, h2⟩, h3, h4⟩ := fracB_iff.1 h
    have hd : upI a b = -(-a / b) := by simp [upI, h]
    rw [hd]
    clear hd
    simp only [h] at hF
    clear h
    have hb := ediv_bd (a := -a) (M := 1125899906842624) h3 (by omega) (by omega)
    go_enter Try.func17, Try.ntmps17
    go_wp2_with (first
      | (go_at_call 31; refine (hF _).mono ?_; rintro e w' ⟨rfl, rfl⟩)
      | (go_at_call 32; refine (floor_any _ _ _ (by omega) (by omega) (by omega)).mono ?_; rintro e w' ⟨rfl, rfl⟩))
    go_ret
    exact ⟨ret_int (by first | rfl | exact wrap_in (by omega) (by omega)), rfl⟩
  · have h' : fracB a b = false := by simpa using h
    have hd : upI a b = 0 := by simp [upI, h']
    rw [hd]
    clear hd
    simp only [h'] at hF
    clear h h'
    go_enter Try.func17, Try.ntmps17
    go_wp2_with (go_at_call 31; refine (hF _).mono ?_; rintro e w' ⟨rfl, rfl⟩)
    go_ret
    exact ⟨rfl, rfl⟩

set_option maxHeartbeats 400000 in
theorem half_any (a b : Int) (w : World) :
    Calls Try.prog 19 #[.int .i64 a, .int .i64 b] w fun e w' => e = .returned (.int .i64 (halfI a b)) ∧ w = w' := by
  have hF := fraction_any a b
  by_cases h : fracB a b = true
  · obtain ⟨⟨h1, h2⟩, h3, h4⟩ := fracB_iff.1 h
    have hd : halfI a b = (2 * a + b) / (2 * b) := by simp [halfI, h]
    rw [hd]
    clear hd
    simp only [h] at hF
    clear h
    go_enter Try.func19, Try.ntmps19
    go_wp2_with (first
      | (go_at_call 31; refine (hF _).mono ?_; rintro e w' ⟨rfl, rfl⟩)
      | (go_at_call 32; refine (floor_any _ _ _ (by omega) (by omega) (by omega)).mono ?_; rintro e w' ⟨rfl, rfl⟩))
    go_ret
    exact ⟨rfl, rfl⟩
  · have h' : fracB a b = false := by simpa using h
    have hd : halfI a b = 0 := by simp [halfI, h']
    rw [hd]
    clear hd
    simp only [h'] at hF
    clear h h'
    go_enter Try.func19, Try.ntmps19
    go_wp2_with (go_at_call 31; refine (hF _).mono ?_; rintro e w' ⟨rfl, rfl⟩)
    go_ret
    exact ⟨rfl, rfl⟩

set_option maxHeartbeats 400000 in
theorem product_any (a b : Nat) (w : World) (ha : a ≤ 1125899906842624) (hb : b ≤ 1125899906842624) :
    Calls Try.prog 28 #[.int .i64 a, .int .i64 b] w fun e w' => e = .returned (.tuple #[.int .u64 ((a * b / 18446744073709551616 : Nat) : Int), .int .u64 ((a * b % 18446744073709551616 : Nat) : Int)]) ∧ w = w' := by
  have hM := fun w => Try.bits_Mul64 a b (by omega) (by omega) w
  generalize a * b / 18446744073709551616 = h at hM ⊢
  generalize a * b % 18446744073709551616 = l at hM ⊢
  go_enter Try.func28, Try.ntmps28
  go_wp2_with (go_at_call 35; refine (hM _).mono ?_; rintro e w' ⟨rfl, hw⟩; rw [hw])
  go_ret2
  exact ⟨rfl, rfl⟩

end Go.Proofs.Ytdiogfjbjdiclaa
