/- The contract of package exact's Less. -/
import Derived.Test.YtdiogfjbjdiclaaExB
import Derived.Lib.Hide
namespace Go.Proofs.Ytdiogfjbjdiclaa
open Go.RowKit

theorem lt_hi (x y K : Nat) (hK : 0 < K) (h : x / K ≠ y / K) : decide (x / K < y / K) = decide (x < y) := by
  apply decide_eq_decide.2
  constructor
  · intro g
    exact Nat.lt_of_not_le fun h2 => absurd (Nat.div_le_div_right (c := K) h2) (by omega)
  · intro g
    have := Nat.div_le_div_right (c := K) (Nat.le_of_lt g)
    omega
theorem lt_lo (x y K : Nat) (h : x / K = y / K) : decide (x % K < y % K) = decide (x < y) := by
  apply decide_eq_decide.2
  have h1 := Nat.div_add_mod x K
  have h2 := Nat.div_add_mod y K
  rw [h] at h1
  omega

set_option maxHeartbeats 400000 in
theorem lessPos_any (a b c d : Int) (w : World) (ha0 : 0 ≤ a) (ha : a ≤ 1125899906842624) (hb0 : 0 ≤ b) (hb : b ≤ 1125899906842624)
    (hc0 : 0 ≤ c) (hc : c ≤ 1125899906842624) (hd0 : 0 ≤ d) (hd : d ≤ 1125899906842624) :
    Calls Try.prog 34 #[.int .i64 a, .int .i64 b, .int .i64 c, .int .i64 d] w fun e w' => e = .returned (.bool (decide (a * d < c * b))) ∧ w = w' := by
  obtain ⟨a, rfl⟩ := Int.eq_ofNat_of_zero_le ha0
  obtain ⟨b, rfl⟩ := Int.eq_ofNat_of_zero_le hb0
  obtain ⟨c, rfl⟩ := Int.eq_ofNat_of_zero_le hc0
  obtain ⟨d, rfl⟩ := Int.eq_ofNat_of_zero_le hd0
  have e : decide ((a : Int) * (d : Int) < (c : Int) * (b : Int)) = decide (a * d < c * b) := by
    rw [← Int.natCast_mul, ← Int.natCast_mul]; exact decide_eq_decide.2 Int.ofNat_lt
  rw [e]
  clear e
  have h1 := fun w => product_any a d w (by omega) (by omega)
  have h2 := fun w => product_any c b w (by omega) (by omega)
  have k1 := lt_hi (a * d) (c * b) 18446744073709551616 (by decide)
  have k2 := lt_lo (a * d) (c * b) 18446744073709551616
  generalize decide (a * d < c * b) = r at k1 k2 ⊢
  generalize a * d / 18446744073709551616 = p1 at h1 k1 k2
  generalize a * d % 18446744073709551616 = q1 at h1 k2
  generalize c * b / 18446744073709551616 = p2 at h2 k1 k2
  generalize c * b % 18446744073709551616 = q2 at h2 k2
  by_cases hp : p1 = p2
  · have k := k2 hp
    clear k1 k2
    subst hp
    have hK := Lib.hid k
    clear k
    go_enter Try.func34, Try.ntmps34
    go_wp2_with (go_at_call 28; first | ((with_reducible refine (h1 _).mono ?_); rintro e w' ⟨rfl, rfl⟩) | ((with_reducible refine (h2 _).mono ?_); rintro e w' ⟨rfl, rfl⟩))
    go_ret
    exact ⟨ret_bool (by rw [← hK.out]; first | done | exact decide_eq_decide.2 Int.ofNat_lt), rfl⟩
  · have k := k1 hp
    clear k1 k2
    have hK := Lib.hid k
    clear k
    have hn : ((p1 : Int) != (p2 : Int)) = true := by rw [bne_iff_ne]; omega
    have hn2 : ((p1 : Int) == (p2 : Int)) = false := beq_eq_false_iff_ne.2 (by omega)
    go_enter Try.func34, Try.ntmps34
    go_wp2_with (go_at_call 28; first | ((with_reducible refine (h1 _).mono ?_); rintro e w' ⟨rfl, rfl⟩) | ((with_reducible refine (h2 _).mono ?_); rintro e w' ⟨rfl, rfl⟩))
    all_goals (go_ret; exact ⟨ret_bool (by rw [← hK.out]; first | done | exact decide_eq_decide.2 Int.ofNat_lt), rfl⟩)

theorem neg_lt {a b c d : Int} : -c * b < -a * d ↔ a * d < c * b := by
  rw [Int.neg_mul, Int.neg_mul]; omega

set_option maxHeartbeats 800000 in
theorem less_any (a b c d : Int) (w : World) :
    Calls Try.prog 21 #[.int .i64 a, .int .i64 b, .int .i64 c, .int .i64 d] w fun e w' => e = .returned (.bool (lessB a b c d)) ∧ w = w' := by
  by_cases h : fracB a b = true
  · by_cases g : fracB c d = true
    · obtain ⟨⟨h1, h2⟩, h3, h4⟩ := fracB_iff.1 h
      obtain ⟨⟨g1, g2⟩, g3, g4⟩ := fracB_iff.1 g
      have hd : lessB a b c d = decide (a * d < c * b) := by simp [lessB, h, g]
      rw [hd]
      clear hd
      by_cases na : a < 0
      · by_cases nc : c < 0
        · have hL := fun w => lessPos_any (-c) d (-a) b w (by omega) (by omega) (by omega) (by omega) (by omega) (by omega) (by omega) (by omega)
          have e : decide (-c * b < -a * d) = decide (a * d < c * b) := decide_eq_decide.2 neg_lt
          rw [e] at hL
          clear e
          generalize decide (a * d < c * b) = r at hL ⊢
          go_enter Try.func21, Try.ntmps21
          go_wp2_with (first
            | (go_at_call 31; (with_reducible refine (fraction_any _ _ _).mono ?_); rintro e w' ⟨rfl, rfl⟩)
            | (go_at_call 34; (with_reducible refine (hL _).mono ?_); rintro e w' ⟨rfl, rfl⟩))
          go_ret
          exact ⟨rfl, rfl⟩
        · have e : a * d < c * b := Int.lt_of_lt_of_le (Int.mul_neg_of_neg_of_pos na (by omega)) (Int.mul_nonneg (by omega) (by omega))
          rw [decide_eq_true e]
          clear e
          go_enter Try.func21, Try.ntmps21
          go_wp2_with (go_at_call 31; (with_reducible refine (fraction_any _ _ _).mono ?_); rintro e w' ⟨rfl, rfl⟩)
          go_ret
          exact ⟨ret_bool (by simp; omega), rfl⟩
      · by_cases nc : c < 0
        · have e : ¬ a * d < c * b := by
            have := Int.mul_nonneg (show 0 ≤ a by omega) (show 0 ≤ d by omega)
            have := Int.mul_neg_of_neg_of_pos nc (show 0 < b by omega)
            omega
          rw [decide_eq_false e]
          clear e
          go_enter Try.func21, Try.ntmps21
          go_wp2_with (go_at_call 31; (with_reducible refine (fraction_any _ _ _).mono ?_); rintro e w' ⟨rfl, rfl⟩)
          go_ret
          exact ⟨ret_bool (by simp; omega), rfl⟩
        · have hL := fun w => lessPos_any a b c d w (by omega) (by omega) (by omega) (by omega) (by omega) (by omega) (by omega) (by omega)
          generalize decide (a * d < c * b) = r at hL ⊢
          go_enter Try.func21, Try.ntmps21
          go_wp2_with (first
            | (go_at_call 31; (with_reducible refine (fraction_any _ _ _).mono ?_); rintro e w' ⟨rfl, rfl⟩)
            | (go_at_call 34; (with_reducible refine (hL _).mono ?_); rintro e w' ⟨rfl, rfl⟩))
          go_ret
          exact ⟨rfl, rfl⟩
    · have hd : lessB a b c d = false := by simp [lessB, g]
      have g' : fracB c d = false := by simpa using g
      rw [hd]
      clear hd
      go_enter Try.func21, Try.ntmps21
      go_wp2_with (go_at_call 31; (with_reducible refine (fraction_any _ _ _).mono ?_); rintro e w' ⟨rfl, rfl⟩)
      go_ret
      exact ⟨rfl, rfl⟩
  · have hd : lessB a b c d = false := by simp [lessB, h]
    have h' : fracB a b = false := by simpa using h
    rw [hd]
    clear hd
    go_enter Try.func21, Try.ntmps21
    go_wp2_with (go_at_call 31; (with_reducible refine (fraction_any _ _ _).mono ?_); rintro e w' ⟨rfl, rfl⟩)
    go_ret
    exact ⟨rfl, rfl⟩

end Go.Proofs.Ytdiogfjbjdiclaa
