/- The contracts of Part and of the reference's divide and Part, at every argument. -/
import Derived.Test.YtdiogfjbjdiclaaRefB
namespace Go.Proofs.Ytdiogfjbjdiclaa
open Go.RowKit

/-- What Part answers: the quotient, or ErrRange. -/
def partR (T p wh : Int) : Value := if partOk T p wh then .tuple #[.int .i64 (T * p / wh), .int .i64 0] else .tuple #[.int .i64 0, .int .i64 2]

theorem ret_val {a b : Value} (h : a = b) : Ending.returned a = .returned b := by rw [h]

theorem partR_bad {T p wh : Int} (h : amtB T = false ∨ amtB p = false ∨ divB wh = false) : partR T p wh = .tuple #[.int .i64 0, .int .i64 2] := by
  have : partOk T p wh = false := by
    unfold partOk
    rcases h with h | h | h <;> simp [h]
  simp [partR, this]

theorem part_nat {T p wh : Nat} : (T : Int) * (p : Int) / (wh : Int) = ((T * p / wh : Nat) : Int) := by rw [Int.natCast_ediv, Int.natCast_mul]

theorem partR_ok {T p wh : Nat} (hT : T ≤ 1099511627776) (hp : p ≤ 1099511627776) (hw0 : 0 < wh) (hw : wh ≤ 1099511627776) (h : T * p / wh ≤ 1125899906842624) : partR T p wh = .tuple #[.int .i64 ((T * p / wh : Nat) : Int), .int .i64 0] := by
  have : partOk T p wh = true := partOk_iff.2 ⟨⟨⟨amtB_iff.2 ⟨by omega, by omega⟩, amtB_iff.2 ⟨by omega, by omega⟩⟩, divB_iff.2 ⟨by omega, by omega⟩⟩, by rw [part_nat]; omega⟩
  simp only [partR, this, if_true, part_nat]

theorem partR_big {T p wh : Nat} (h : ¬ T * p / wh ≤ 1125899906842624) : partR T p wh = .tuple #[.int .i64 0, .int .i64 2] := by
  have : partOk T p wh = false := by
    rw [← Bool.not_eq_true, partOk_iff, part_nat]
    intro hh
    omega
  simp [partR, this]

theorem amt_nat {T : Int} (h : amtB T = true) : ∃ t : Nat, T = (t : Int) ∧ t ≤ 1099511627776 := by
  obtain ⟨h1, h2⟩ := amtB_iff.1 h
  obtain ⟨t, rfl⟩ := Int.eq_ofNat_of_zero_le h1
  exact ⟨t, rfl, by omega⟩
theorem div_nat {T : Int} (h : divB T = true) : ∃ t : Nat, T = (t : Int) ∧ 0 < t ∧ t ≤ 1099511627776 := by
  obtain ⟨h1, h2⟩ := divB_iff.1 h
  obtain ⟨t, rfl⟩ := Int.eq_ofNat_of_zero_le (show 0 ≤ T by omega)
  exact ⟨t, rfl, by omega, by omega⟩

set_option maxHeartbeats 1000000 in
theorem part_any (T p wh : Int) (w : World) :
    Calls Try.prog 13 #[.int .i64 T, .int .i64 p, .int .i64 wh] w fun e w' => e = .returned (partR T p wh) ∧ ∃ q, w' = w.drewN q := by
  by_cases h1 : amtB T = true
  · by_cases h2 : amtB p = true
    · by_cases h3 : divB wh = true
      · obtain ⟨T, rfl, hT⟩ := amt_nat h1
        obtain ⟨p, rfl, hp⟩ := amt_nat h2
        obtain ⟨wh, rfl, hw0, hw⟩ := div_nat h3
        by_cases hq : T * p / wh ≤ 1125899906842624
        · rw [partR_ok hT hp hw0 hw hq]
          have hi : T * p / 18446744073709551616 < wh := by
            have h4 : T * p < (1125899906842624 + 1) * wh := (Nat.div_lt_iff_lt_mul hw0).1 (Nat.lt_succ_of_le hq)
            refine (Nat.div_lt_iff_lt_mul (by decide)).2 ?_
            have : (1125899906842624 + 1) * wh ≤ 18446744073709551616 * wh := Nat.mul_le_mul_right wh (by decide)
            rw [Nat.mul_comm wh]
            omega
          exact part_ok T p wh hT hp hw0 hw hq (divOk_any _ _ hi (by omega)) w
        · rw [partR_big hq]
          have hP := fun w => product_any T p w (by omega) (by omega)
          have HP := Lib.hid hP
          by_cases hi : T * p / 18446744073709551616 < wh
          · have hD := divOk_any (T * p) wh hi (by omega)
            unfold DivOk at hD
            have HD := Lib.hid hD
            have hq64 : T * p / wh < 18446744073709551616 := by
              have hd := Nat.div_add_mod (T * p) 18446744073709551616
              have hm : T * p % 18446744073709551616 < 18446744073709551616 := Nat.mod_lt _ (by decide)
              refine (Nat.div_lt_iff_lt_mul hw0).2 ?_
              generalize T * p = X at *
              omega
            clear hP hD
            generalize T * p / wh = qq at *
            generalize T * p % wh = rr at *
            generalize T * p / 18446744073709551616 = ph at *
            generalize T * p % 18446744073709551616 = pl at *
            have hi' : ¬ (wh : Int) ≤ (ph : Int) := by omega
            have hq' : (1125899906842624 : Int) < (qq : Int) := by omega
            go_enter Try.func13, Try.ntmps13
            go_wp2_with (first
              | (go_at_call 26; (with_reducible refine (amount_any _ _).mono ?_); rintro e w' ⟨rfl, rfl⟩)
              | (go_at_call 27; (with_reducible refine (divisor_any _ _).mono ?_); rintro e w' ⟨rfl, rfl⟩)
              | (go_at_call 28; (with_reducible refine (HP.out _).mono ?_); rintro e w' ⟨rfl, rfl⟩)
              | (go_at_call 29; (with_reducible refine (HD.out _).mono ?_); rintro e w' ⟨rfl, q, rfl⟩))
            go_ret2
            exact ⟨rfl, _, rfl⟩
          · clear hP
            generalize T * p / wh = qq at *
            generalize T * p / 18446744073709551616 = ph at *
            generalize T * p % 18446744073709551616 = pl at *
            have hi' : (wh : Int) ≤ (ph : Int) := by omega
            clear hi hq
            go_enter Try.func13, Try.ntmps13
            go_wp2_with (first
              | (go_at_call 26; (with_reducible refine (amount_any _ _).mono ?_); rintro e w' ⟨rfl, rfl⟩)
              | (go_at_call 27; (with_reducible refine (divisor_any _ _).mono ?_); rintro e w' ⟨rfl, rfl⟩)
              | (go_at_call 28; (with_reducible refine (HP.out _).mono ?_); rintro e w' ⟨rfl, rfl⟩))
            go_ret2
            exact ⟨rfl, 0, rfl⟩
      · have h3' : divB wh = false := by simpa using h3
        rw [partR_bad (Or.inr (Or.inr h3'))]
        clear h3
        go_enter Try.func13, Try.ntmps13
        go_wp2_with (first
          | (go_at_call 26; (with_reducible refine (amount_any _ _).mono ?_); rintro e w' ⟨rfl, rfl⟩)
          | (go_at_call 27; (with_reducible refine (divisor_any _ _).mono ?_); rintro e w' ⟨rfl, rfl⟩))
        go_ret2
        exact ⟨rfl, 0, rfl⟩
    · have h2' : amtB p = false := by simpa using h2
      rw [partR_bad (Or.inr (Or.inl h2'))]
      clear h2
      go_enter Try.func13, Try.ntmps13
      go_wp2_with (go_at_call 26; (with_reducible refine (amount_any _ _).mono ?_); rintro e w' ⟨rfl, rfl⟩)
      go_ret2
      exact ⟨rfl, 0, rfl⟩
  · have h1' : amtB T = false := by simpa using h1
    rw [partR_bad (Or.inl h1')]
    clear h1
    go_enter Try.func13, Try.ntmps13
    go_wp2_with (go_at_call 26; (with_reducible refine (amount_any _ _).mono ?_); rintro e w' ⟨rfl, rfl⟩)
    go_ret2
    exact ⟨rfl, 0, rfl⟩

end Go.Proofs.Ytdiogfjbjdiclaa
