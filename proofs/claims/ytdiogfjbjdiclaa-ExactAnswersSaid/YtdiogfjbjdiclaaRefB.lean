/- The contracts of Part, of the reference's Less, divide and Part. -/
import Derived.Test.YtdiogfjbjdiclaaRefA
import Derived.Test.YtdiogfjbjdiclaaParts
namespace Go.Proofs.Ytdiogfjbjdiclaa
open Go.RowKit

theorem words_lt (x y : Nat) : (decide (x / 18446744073709551616 < y / 18446744073709551616) || (decide (x / 18446744073709551616 = y / 18446744073709551616) && decide (x % 18446744073709551616 < y % 18446744073709551616))) = decide (x < y) := by
  by_cases h : x / 18446744073709551616 = y / 18446744073709551616
  · rw [lt_lo x y _ h]
    simp [h]
  · rw [lt_hi x y _ (by decide) h]
    simp [h]

set_option maxHeartbeats 800000 in
theorem refLess_any (a b c d : Int) (w : World) :
    Calls Try.prog 22 #[.int .i64 a, .int .i64 b, .int .i64 c, .int .i64 d] w fun e w' => e = .returned (.bool (lessB a b c d)) ∧ w = w' := by
  by_cases h : fracB a b = true
  · by_cases g : fracB c d = true
    · obtain ⟨⟨h1, h2⟩, h3, h4⟩ := fracB_iff.1 h
      obtain ⟨⟨g1, g2⟩, g3, g4⟩ := fracB_iff.1 g
      have hd : lessB a b c d = decide (a * d < c * b) := by simp [lessB, h, g]
      rw [hd]
      clear hd
      by_cases na : a < 0
      · by_cases nc : c < 0
        · obtain ⟨A, hA⟩ := Int.eq_ofNat_of_zero_le (show 0 ≤ -a by omega)
          obtain ⟨C, hC⟩ := Int.eq_ofNat_of_zero_le (show 0 ≤ -c by omega)
          obtain ⟨b, rfl⟩ := Int.eq_ofNat_of_zero_le (show 0 ≤ b by omega)
          obtain ⟨d, rfl⟩ := Int.eq_ofNat_of_zero_le (show 0 ≤ d by omega)
          have e : decide (a * (d : Int) < c * (b : Int)) = decide (C * b < A * d) := by
            have e0 : decide (a * (d : Int) < c * (b : Int)) = decide (-c * (b : Int) < -a * (d : Int)) := decide_eq_decide.2 neg_lt.symm
            rw [e0, hA, hC, ← Int.natCast_mul, ← Int.natCast_mul]; exact decide_eq_decide.2 Int.ofNat_lt
          rw [e, ← words_lt]
          clear e
          have hm1 := fun w => Try.bits_Mul64 C b (by omega) (by omega) w
          have hm2 := fun w => Try.bits_Mul64 A d (by omega) (by omega) w
          generalize C * b / 18446744073709551616 = p1 at *
          generalize C * b % 18446744073709551616 = q1 at *
          generalize A * d / 18446744073709551616 = p2 at *
          generalize A * d % 18446744073709551616 = q2 at *
          have M1 := Lib.hid hm1
          have M2 := Lib.hid hm2
          clear hm1 hm2
          go_enter Try.func22, Try.ntmps22
          go_wp2_with (first
            | (go_at_call 33; (with_reducible refine (proper_any _ _ _).mono ?_); rintro e w' ⟨rfl, rfl⟩)
            | (go_at_call 35; first | ((with_reducible refine (M1.out _).mono ?_); rintro e w' ⟨rfl, hw⟩; rw [hw]) | ((with_reducible refine (M2.out _).mono ?_); rintro e w' ⟨rfl, hw⟩; rw [hw])))
          all_goals
            go_ret
            refine ⟨ret_bool ?_, rfl⟩
            rw [Bool.eq_iff_iff]
            simp
            omega
        · have e : a * d < c * b := Int.lt_of_lt_of_le (Int.mul_neg_of_neg_of_pos na (by omega)) (Int.mul_nonneg (by omega) (by omega))
          rw [decide_eq_true e]
          clear e
          go_enter Try.func22, Try.ntmps22
          go_wp2_with (go_at_call 33; (with_reducible refine (proper_any _ _ _).mono ?_); rintro e w' ⟨rfl, rfl⟩)
          go_ret
          exact ⟨ret_bool (by simp), rfl⟩
      · by_cases nc : c < 0
        · have e : ¬ a * d < c * b := by
            have := Int.mul_nonneg (show 0 ≤ a by omega) (show 0 ≤ d by omega)
            have := Int.mul_neg_of_neg_of_pos nc (show 0 < b by omega)
            omega
          rw [decide_eq_false e]
          clear e
          go_enter Try.func22, Try.ntmps22
          go_wp2_with (go_at_call 33; (with_reducible refine (proper_any _ _ _).mono ?_); rintro e w' ⟨rfl, rfl⟩)
          go_ret
          exact ⟨ret_bool (by simp), rfl⟩
        · obtain ⟨a, rfl⟩ := Int.eq_ofNat_of_zero_le (show 0 ≤ a by omega)
          obtain ⟨b, rfl⟩ := Int.eq_ofNat_of_zero_le (show 0 ≤ b by omega)
          obtain ⟨c, rfl⟩ := Int.eq_ofNat_of_zero_le (show 0 ≤ c by omega)
          obtain ⟨d, rfl⟩ := Int.eq_ofNat_of_zero_le (show 0 ≤ d by omega)
          have e : decide ((a : Int) * (d : Int) < (c : Int) * (b : Int)) = decide (a * d < c * b) := by
            rw [← Int.natCast_mul, ← Int.natCast_mul]; exact decide_eq_decide.2 Int.ofNat_lt
          rw [e, ← words_lt]
          clear e
          have hm1 := fun w => Try.bits_Mul64 a d (by omega) (by omega) w
          have hm2 := fun w => Try.bits_Mul64 c b (by omega) (by omega) w
          generalize a * d / 18446744073709551616 = p1 at *
          generalize a * d % 18446744073709551616 = q1 at *
          generalize c * b / 18446744073709551616 = p2 at *
          generalize c * b % 18446744073709551616 = q2 at *
          have M1 := Lib.hid hm1
          have M2 := Lib.hid hm2
          clear hm1 hm2
          have z1 : ¬ (a : Int) < 0 := by omega
          have z2 : ¬ (c : Int) < 0 := by omega
          go_enter Try.func22, Try.ntmps22
          go_wp2_with (first
            | (go_at_call 33; (with_reducible refine (proper_any _ _ _).mono ?_); rintro e w' ⟨rfl, rfl⟩)
            | (go_at_call 35; first | ((with_reducible refine (M1.out _).mono ?_); rintro e w' ⟨rfl, hw⟩; rw [hw]) | ((with_reducible refine (M2.out _).mono ?_); rintro e w' ⟨rfl, hw⟩; rw [hw])))
          all_goals
            go_ret
            refine ⟨ret_bool ?_, rfl⟩
            rw [Bool.eq_iff_iff]
            simp
            omega
    · have hd : lessB a b c d = false := by simp [lessB, g]
      have g' : fracB c d = false := by simpa using g
      rw [hd]
      clear hd
      go_enter Try.func22, Try.ntmps22
      go_wp2_with (go_at_call 33; (with_reducible refine (proper_any _ _ _).mono ?_); rintro e w' ⟨rfl, rfl⟩)
      go_ret
      exact ⟨rfl, rfl⟩
  · have hd : lessB a b c d = false := by simp [lessB, h]
    have h' : fracB a b = false := by simpa using h
    rw [hd]
    clear hd
    go_enter Try.func22, Try.ntmps22
    go_wp2_with (go_at_call 33; (with_reducible refine (proper_any _ _ _).mono ?_); rintro e w' ⟨rfl, rfl⟩)
    go_ret
    exact ⟨rfl, rfl⟩

end Go.Proofs.Ytdiogfjbjdiclaa
