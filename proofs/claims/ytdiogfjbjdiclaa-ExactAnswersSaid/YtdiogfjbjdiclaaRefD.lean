/- The contracts of the reference's divide and Part. -/
import Derived.Test.YtdiogfjbjdiclaaRefC
namespace Go.Proofs.Ytdiogfjbjdiclaa
open Go.RowKit

theorem ret_iib {a b c d : Int} {x y : Bool} (h : a = c) (g : b = d) (f : x = y) : Ending.returned (.tuple #[.int .i64 a, .int .i64 b, .bool x]) = .returned (.tuple #[.int .i64 c, .int .i64 d, .bool y]) := by rw [h, g, f]

/-- What divide answers where the high word is below z. -/
def DivOut (qq rr : Nat) (w : World) (e : Ending) (w' : World) : Prop :=
  e = .returned (.tuple #[.int .i64 (wrap64 (qq : Int)), .int .i64 (wrap64 (rr : Int)), .bool (decide ((qq : Int) < 9223372036854775808))]) ∧ ∃ q, w' = w.drewN q

set_option maxHeartbeats 400000 in
theorem refDivide_gen (x y z : Nat) (hx : x ≤ 1125899906842624) (hy : y ≤ 1125899906842624) (hz : z ≤ 1125899906842624) (hi : x * y / 18446744073709551616 < z) (w : World) :
    Calls Try.prog 30 #[.int .i64 x, .int .i64 y, .int .i64 z] w fun e w' => DivOut (x * y / z) (x * y % z) w e w' := by
  have hM := fun w => Try.bits_Mul64 x y (by omega) (by omega) w
  have hD := divOk_any (x * y) z hi (by omega)
  unfold DivOk at hD
  have HM := Lib.hid hM
  have HD := Lib.hid hD
  clear hM hD
  generalize x * y / z = qq at *
  generalize x * y % z = rr at *
  generalize x * y / 18446744073709551616 = ph at *
  generalize x * y % 18446744073709551616 = pl at *
  have hi' : ¬ (z : Int) ≤ (ph : Int) := by omega
  have hz' : (z : Int) ≤ 1125899906842624 := by omega
  go_enter Try.func30, Try.ntmps30
  go_wp2_with (first
    | (go_at_call 35; (with_reducible refine (HM.out _).mono ?_); rintro e w' ⟨rfl, hw⟩; rw [hw])
    | (go_at_call 29; (with_reducible refine (HD.out _).mono ?_); rintro e w' ⟨rfl, q, rfl⟩))
  go_ret3
  exact ⟨ret_iib rfl rfl (by simp), _, rfl⟩

theorem refDivide_small (x y z : Nat) (hx : x ≤ 1125899906842624) (hy : y ≤ 1125899906842624) (hz : z ≤ 1125899906842624) (hi : x * y / 18446744073709551616 < z) (hq : x * y / z < 9223372036854775808) (w : World) :
    Calls Try.prog 30 #[.int .i64 x, .int .i64 y, .int .i64 z] w fun e w' => e = .returned (.tuple #[.int .i64 ((x * y / z : Nat) : Int), .int .i64 ((x * y % z : Nat) : Int), .bool true]) ∧ ∃ q, w' = w.drewN q := by
  have hr : x * y % z < z := Nat.mod_lt _ (by omega)
  refine (refDivide_gen x y z hx hy hz hi w).mono ?_
  generalize x * y / z = qq at *
  generalize x * y % z = rr at *
  rintro e w' ⟨rfl, q, rfl⟩
  exact ⟨ret_iib (wrap_in (by omega) (by omega)) (wrap_in (by omega) (by omega)) (decide_eq_true (by omega)), q, rfl⟩

set_option maxHeartbeats 400000 in
theorem refDivide_over (x y z : Nat) (hx : x ≤ 1125899906842624) (hy : y ≤ 1125899906842624) (hz : z ≤ 1125899906842624) (hi : ¬ x * y / 18446744073709551616 < z) (w : World) :
    Calls Try.prog 30 #[.int .i64 x, .int .i64 y, .int .i64 z] w fun e w' => e = .returned (.tuple #[.int .i64 0, .int .i64 0, .bool false]) ∧ ∃ q, w' = w.drewN q := by
  have hM := fun w => Try.bits_Mul64 x y (by omega) (by omega) w
  have HM := Lib.hid hM
  clear hM
  generalize x * y / 18446744073709551616 = ph at *
  generalize x * y % 18446744073709551616 = pl at *
  have hi' : (z : Int) ≤ (ph : Int) := by omega
  have hz' : (z : Int) ≤ 1125899906842624 := by omega
  go_enter Try.func30, Try.ntmps30
  go_wp2_with (go_at_call 35; (with_reducible refine (HM.out _).mono ?_); rintro e w' ⟨rfl, hw⟩; rw [hw])
  go_ret3
  exact ⟨rfl, 0, rfl⟩

/-- A quotient that no int holds: divide says so. -/
def Huge (w : World) (e : Ending) (w' : World) : Prop := ∃ a b : Int, e = .returned (.tuple #[.int .i64 a, .int .i64 b, .bool false]) ∧ ∃ q, w' = w.drewN q

set_option maxHeartbeats 400000 in
theorem refDivide_huge (x y z : Nat) (hx : x ≤ 1125899906842624) (hy : y ≤ 1125899906842624) (hz : z ≤ 1125899906842624) (hi : x * y / 18446744073709551616 < z) (hq : ¬ x * y / z < 9223372036854775808) (w : World) :
    Calls Try.prog 30 #[.int .i64 x, .int .i64 y, .int .i64 z] w fun e w' => Huge w e w' := by
  have hM := fun w => Try.bits_Mul64 x y (by omega) (by omega) w
  have hD := divOk_any (x * y) z hi (by omega)
  unfold DivOk at hD
  have HM := Lib.hid hM
  have HD := Lib.hid hD
  clear hM hD
  generalize x * y / z = qq at *
  generalize x * y % z = rr at *
  generalize x * y / 18446744073709551616 = ph at *
  generalize x * y % 18446744073709551616 = pl at *
  have hi' : ¬ (z : Int) ≤ (ph : Int) := by omega
  have hq' : ¬ (qq : Int) < 9223372036854775808 := by omega
  have hz' : (z : Int) ≤ 1125899906842624 := by omega
  go_enter Try.func30, Try.ntmps30
  go_wp2_with (first
    | (go_at_call 35; (with_reducible refine (HM.out _).mono ?_); rintro e w' ⟨rfl, hw⟩; rw [hw])
    | (go_at_call 29; (with_reducible refine (HD.out _).mono ?_); rintro e w' ⟨rfl, q, rfl⟩))
  go_ret3
  exact ⟨_, _, ret_iib rfl rfl (by simp; omega), _, rfl⟩

set_option maxHeartbeats 1000000 in
theorem refPart_any (T p wh : Int) (w : World) :
    Calls Try.prog 14 #[.int .i64 T, .int .i64 p, .int .i64 wh] w fun e w' => e = .returned (partR T p wh) ∧ ∃ q, w' = w.drewN q := by
  by_cases h1 : amtB T = true
  · by_cases h2 : amtB p = true
    · by_cases h3 : divB wh = true
      · obtain ⟨T, rfl, hT⟩ := amt_nat h1
        obtain ⟨p, rfl, hp⟩ := amt_nat h2
        obtain ⟨wh, rfl, hw0, hw⟩ := div_nat h3
        clear h1 h2 h3
        have t1 : (T : Int) ≤ 1099511627776 := by omega
        have t2 : (p : Int) ≤ 1099511627776 := by omega
        have t3 : (wh : Int) ≤ 1099511627776 := by omega
        have t4 : (1 : Int) ≤ (wh : Int) := by omega
        by_cases hi : T * p / 18446744073709551616 < wh
        · by_cases hb : T * p / wh < 9223372036854775808
          · have hD := fun w => refDivide_small T p wh (by omega) (by omega) (by omega) hi hb w
            have HD := Lib.hid hD
            by_cases hq : T * p / wh ≤ 1125899906842624
            · rw [partR_ok hT hp hw0 hw hq]
              clear hD hi hb
              generalize T * p / wh = qq at *
              generalize T * p % wh = rr at *
              have hq' : ¬ (1125899906842624 : Int) < (qq : Int) := by omega
              go_enter Try.func14, Try.ntmps14
              go_wp2_with (go_at_call 30; (with_reducible refine (HD.out _).mono ?_); rintro e w' ⟨rfl, q, rfl⟩)
              go_ret2
              exact ⟨rfl, _, rfl⟩
            · rw [partR_big hq]
              clear hD hi
              generalize T * p / wh = qq at *
              generalize T * p % wh = rr at *
              have hq' : (1125899906842624 : Int) < (qq : Int) := by omega
              go_enter Try.func14, Try.ntmps14
              go_wp2_with (go_at_call 30; (with_reducible refine (HD.out _).mono ?_); rintro e w' ⟨rfl, q, rfl⟩)
              go_ret2
              exact ⟨rfl, _, rfl⟩
          · rw [partR_big (by omega)]
            have hD := fun w => refDivide_huge T p wh (by omega) (by omega) (by omega) hi hb w
            have HD := Lib.hid hD
            clear hD hi hb
            go_enter Try.func14, Try.ntmps14
            go_wp2_with fail
            refine (HD.out _).mono ?_
            rintro e w' ⟨a, b, rfl, q, rfl⟩
            go_wp2_with fail
            go_ret2
            exact ⟨rfl, _, rfl⟩
        · have hbig : ¬ T * p / wh ≤ 1125899906842624 := by
            intro hq
            apply hi
            have h4 : T * p < (1125899906842624 + 1) * wh := (Nat.div_lt_iff_lt_mul hw0).1 (Nat.lt_succ_of_le hq)
            refine (Nat.div_lt_iff_lt_mul (by decide)).2 ?_
            have : (1125899906842624 + 1) * wh ≤ 18446744073709551616 * wh := Nat.mul_le_mul_right wh (by decide)
            rw [Nat.mul_comm wh]
            omega
          rw [partR_big hbig]
          have hD := fun w => refDivide_over T p wh (by omega) (by omega) (by omega) hi w
          have HD := Lib.hid hD
          clear hD hi hbig
          go_enter Try.func14, Try.ntmps14
          go_wp2_with (go_at_call 30; (with_reducible refine (HD.out _).mono ?_); rintro e w' ⟨rfl, q, rfl⟩)
          go_ret2
          exact ⟨rfl, _, rfl⟩
      · have h3' : divB wh = false := by simpa using h3
        rw [partR_bad (Or.inr (Or.inr h3'))]
        obtain ⟨a1, a2⟩ := amtB_iff.1 h1
        obtain ⟨a3, a4⟩ := amtB_iff.1 h2
        rcases divB_f.1 h3' with h | h
        all_goals
          clear h1 h2 h3 h3'
          go_enter Try.func14, Try.ntmps14
          go_wp2
          all_goals (go_ret2; exact ⟨rfl, 0, rfl⟩)
    · have h2' : amtB p = false := by simpa using h2
      rw [partR_bad (Or.inr (Or.inl h2'))]
      obtain ⟨a1, a2⟩ := amtB_iff.1 h1
      rcases amtB_f.1 h2' with h | h
      all_goals
        clear h1 h2 h2'
        go_enter Try.func14, Try.ntmps14
        go_wp2
        all_goals (go_ret2; exact ⟨rfl, 0, rfl⟩)
  · have h1' : amtB T = false := by simpa using h1
    rw [partR_bad (Or.inl h1')]
    rcases amtB_f.1 h1' with h | h
    all_goals
      clear h1 h1'
      go_enter Try.func14, Try.ntmps14
      go_wp2
      all_goals (go_ret2; exact ⟨rfl, 0, rfl⟩)

end Go.Proofs.Ytdiogfjbjdiclaa
