/- The contracts of the reference's rounding functions, and Div64 as exact's own functions use it. -/
import Derived.Test.YtdiogfjbjdiclaaDv
import Derived.Test.YtdiogfjbjdiclaaExC
namespace Go.Proofs.Ytdiogfjbjdiclaa
open Go.RowKit

theorem divOk_any (x y : Nat) (hx : x / 18446744073709551616 < y) (hy : y < 18446744073709551616) : DivOk x y := by
  intro w
  by_cases h : x < 18446744073709551616
  · exact divOk_low x y h (by omega) w
  · have hd := Nat.div_add_mod x 18446744073709551616
    have h0 : 0 < x / 18446744073709551616 := Nat.div_pos (by omega) (by decide)
    have hm : x % 18446744073709551616 < 18446744073709551616 := Nat.mod_lt _ (by decide)
    have hc := div64_high (x / 18446744073709551616) (x % 18446744073709551616) y h0 hx hm hy w
    rw [Nat.mul_comm, hd] at hc
    exact hc

set_option maxHeartbeats 400000 in
theorem proper_any (a b : Int) (w : World) :
    Calls Try.prog 33 #[.int .i64 a, .int .i64 b] w fun e w' => e = .returned (.bool (fracB a b)) ∧ w = w' := by
  by_cases h1 : -1125899906842624 ≤ a
  · by_cases h2 : a ≤ 1125899906842624
    · by_cases h3 : 1 ≤ b
      · by_cases h4 : b ≤ 1099511627776
        · rw [fracB_t h1 h2 h3 h4]
          go_enter Try.func33, Try.ntmps33
          go_wp2
          go_ret
          exact ⟨ret_bool (by simp), rfl⟩
        · have hr : fracB a b = false := by simp [fracB, divB, h4]
          rw [hr]; clear hr
          go_enter Try.func33, Try.ntmps33
          go_wp2
          go_ret
          exact ⟨ret_bool (by simp), rfl⟩
      · have hr : fracB a b = false := by simp [fracB, divB, h3]
        rw [hr]; clear hr
        go_enter Try.func33, Try.ntmps33
        go_wp2
        go_ret
        exact ⟨ret_bool (by simp), rfl⟩
    · have hr : fracB a b = false := by simp [fracB, h2]
      rw [hr]; clear hr
      go_enter Try.func33, Try.ntmps33
      go_wp2
      go_ret
      exact ⟨ret_bool (by simp), rfl⟩
  · have hr : fracB a b = false := by simp [fracB, h1]
    rw [hr]; clear hr
    go_enter Try.func33, Try.ntmps33
    go_wp2
    go_ret
    exact ⟨ret_bool (by simp), rfl⟩

theorem emod_le_self {a b : Int} (h0 : 0 ≤ a) (hb : 0 < b) : a % b ≤ a := by
  have h := Int.mul_ediv_add_emod a b
  have := Int.mul_nonneg (show 0 ≤ b by omega) (Int.ediv_nonneg h0 (show 0 ≤ b by omega))
  omega

theorem tdiv_facts {a b : Int} (hb : 1 ≤ b) (h1 : -1125899906842624 ≤ a) (h2 : a ≤ 1125899906842624) :
    wrap64 (a.tdiv b * b) = a.tdiv b * b ∧ -1125899906842625 ≤ a.tdiv b ∧ a.tdiv b ≤ 1125899906842625 ∧ (a.tmod b < 0 → a < a.tdiv b * b) ∧ (0 ≤ a.tmod b → ¬ a < a.tdiv b * b) := by
  have hm := Int.mul_tdiv_add_tmod a b
  rw [Int.mul_comm] at hm
  have u := Int.tmod_lt_of_pos a (show (0 : Int) < b by omega)
  have l := Int.lt_tmod_of_pos a (show (0 : Int) < b by omega)
  have bd := ediv_bd hb h1 h2
  have hq : a.tdiv b = a / b ∨ a.tdiv b = a / b + 1 := by
    by_cases h : a.tmod b < 0
    · right; have := tdiv_neg_rest hb h; omega
    · left; exact tdiv_pos_rest hb (by omega)
  have ab : a.tmod b ≤ 1125899906842624 ∧ -1125899906842624 ≤ a.tmod b := by
    by_cases h0 : 0 ≤ a
    · have e := Int.tmod_eq_emod_of_nonneg (b := b) h0
      have e1 := Int.emod_nonneg a (show b ≠ 0 by omega)
      have e2 : a % b ≤ a := emod_le_self h0 (by omega)
      omega
    · have e := Int.neg_tmod a b
      have e0 := Int.tmod_eq_emod_of_nonneg (b := b) (show 0 ≤ -a by omega)
      have e1 := Int.emod_nonneg (-a) (show b ≠ 0 by omega)
      have e2 : -a % b ≤ -a := emod_le_self (by omega) (by omega)
      omega
  refine ⟨wrap_in (by omega) (by omega), by omega, by omega, fun h => by omega, fun h => by omega⟩

set_option maxHeartbeats 400000 in
theorem refDown_any (a b : Int) (w : World) :
    Calls Try.prog 16 #[.int .i64 a, .int .i64 b] w fun e w' => e = .returned (.int .i64 (downI a b)) ∧ w = w' := by
  have hP := fun w => proper_any a b w
  by_cases h : fracB a b = true
  · obtain ⟨⟨h1, h2⟩, h3, h4⟩ := fracB_iff.1 h
    have hd : downI a b = a / b := by simp [downI, h]
    rw [hd]
    clear hd
    rw [h] at hP
    clear h
    obtain ⟨w1, q1, q2, f1, f2⟩ := tdiv_facts h3 h1 h2
    by_cases hm : a.tmod b < 0
    · have z := f1 hm
      have e := tdiv_neg_rest h3 hm
      have E := Lib.hid e
      clear e f1 f2 hm
      obtain ⟨q, hq⟩ : ∃ q, a.tdiv b = q := ⟨_, rfl⟩
      rw [hq] at w1 q1 q2 z E
      go_enter Try.func16, Try.ntmps16
      go_wp2_with (go_at_call 33; (with_reducible refine (hP _).mono ?_); rintro e w' ⟨rfl, rfl⟩)
      go_ret
      exact ⟨ret_int E.out, rfl⟩
    · have z := f2 (by omega)
      have e := tdiv_pos_rest h3 (show 0 ≤ a.tmod b by omega)
      have E := Lib.hid e
      clear e f1 f2 hm
      obtain ⟨q, hq⟩ : ∃ q, a.tdiv b = q := ⟨_, rfl⟩
      rw [hq] at w1 q1 q2 z E
      go_enter Try.func16, Try.ntmps16
      go_wp2_with (go_at_call 33; (with_reducible refine (hP _).mono ?_); rintro e w' ⟨rfl, rfl⟩)
      go_ret
      exact ⟨ret_int E.out, rfl⟩
  · have h' : fracB a b = false := by simpa using h
    have hd : downI a b = 0 := by simp [downI, h']
    rw [hd]
    clear hd
    rw [h'] at hP
    clear h h'
    go_enter Try.func16, Try.ntmps16
    go_wp2_with (go_at_call 33; (with_reducible refine (hP _).mono ?_); rintro e w' ⟨rfl, rfl⟩)
    go_ret
    exact ⟨rfl, rfl⟩

theorem half_of {a b : Int} (hb : 1 ≤ b) : (b ≤ 2 * (a - a / b * b) → (2 * a + b) / (2 * b) = a / b + 1) ∧ (¬ b ≤ 2 * (a - a / b * b) → (2 * a + b) / (2 * b) = a / b) := by
  have l := ediv_lo a b hb
  have u := ediv_hi a b hb
  generalize hq : a / b = q at *
  have e1 : q * (2 * b) = 2 * (q * b) := by rw [← Int.mul_assoc, Int.mul_comm q 2, Int.mul_assoc]
  have e2 : (q + 1) * (2 * b) = 2 * (q * b) + 2 * b := by rw [Int.add_mul, e1]; omega
  refine ⟨fun h => ediv_of (by omega) ?_ ?_, fun h => ediv_of (by omega) ?_ ?_⟩
  · rw [e2]; omega
  · rw [e2]; omega
  · rw [e1]; omega
  · rw [e1]; omega

set_option maxHeartbeats 400000 in
theorem refUp_any (a b : Int) (w : World) :
    Calls Try.prog 18 #[.int .i64 a, .int .i64 b] w fun e w' => e = .returned (.int .i64 (upI a b)) ∧ w = w' := by
  have hP := fun w => proper_any a b w
  by_cases h : fracB a b = true
  · obtain ⟨⟨h1, h2⟩, h3, h4⟩ := fracB_iff.1 h
    have h' : fracB (-a) b = true := fracB_t (by omega) (by omega) h3 h4
    have hd : upI a b = -downI (-a) b := by simp [upI, downI, h, h']
    have hD := fun w => refDown_any (-a) b w
    have hb : -1125899906842624 ≤ downI (-a) b ∧ downI (-a) b ≤ 1125899906842624 := by
      have := ediv_bd (a := -a) (b := b) (M := 1125899906842624) h3 (by omega) (by omega)
      simpa [downI, h'] using this
    rw [hd]
    rw [h] at hP
    clear h h' hd
    generalize downI (-a) b = d at *
    go_enter Try.func18, Try.ntmps18
    go_wp2_with (first
      | (go_at_call 33; (with_reducible refine (hP _).mono ?_); rintro e w' ⟨rfl, rfl⟩)
      | (go_at_call 16; (with_reducible refine (hD _).mono ?_); rintro e w' ⟨rfl, rfl⟩))
    go_ret
    exact ⟨ret_int (by first | rfl | exact wrap_in (by omega) (by omega)), rfl⟩
  · have h' : fracB a b = false := by simpa using h
    have hd : upI a b = 0 := by simp [upI, h']
    rw [hd]
    clear hd
    rw [h'] at hP
    clear h h'
    go_enter Try.func18, Try.ntmps18
    go_wp2_with (go_at_call 33; (with_reducible refine (hP _).mono ?_); rintro e w' ⟨rfl, rfl⟩)
    go_ret
    exact ⟨rfl, rfl⟩

set_option maxHeartbeats 400000 in
theorem refHalf_any (a b : Int) (w : World) :
    Calls Try.prog 20 #[.int .i64 a, .int .i64 b] w fun e w' => e = .returned (.int .i64 (halfI a b)) ∧ w = w' := by
  have hP := fun w => proper_any a b w
  have hD := fun w => refDown_any a b w
  by_cases h : fracB a b = true
  · obtain ⟨⟨h1, h2⟩, h3, h4⟩ := fracB_iff.1 h
    have hd : halfI a b = (2 * a + b) / (2 * b) := by simp [halfI, h]
    have hdd : downI a b = a / b := by simp [downI, h]
    have hb := ediv_bd (a := a) (b := b) (M := 1125899906842624) h3 (by omega) (by omega)
    have hh := half_of (a := a) h3
    have l := ediv_lo a b h3
    have u := ediv_hi a b h3
    have wm : wrap64 (a / b * b) = a / b * b := wrap_in (by omega) (by omega)
    rw [hd]
    rw [hdd] at hD
    rw [h] at hP
    have HH := Lib.hid hh
    clear h hd hdd hh
    generalize (2 * a + b) / (2 * b) = x at *
    generalize a / b = d at *
    by_cases hc : b ≤ 2 * (a - d * b)
    · have e := HH.out.1 hc
      have E := Lib.hid e
      clear e HH
      go_enter Try.func20, Try.ntmps20
      go_wp2_with (first
        | (go_at_call 33; (with_reducible refine (hP _).mono ?_); rintro e w' ⟨rfl, rfl⟩)
        | (go_at_call 16; (with_reducible refine (hD _).mono ?_); rintro e w' ⟨rfl, rfl⟩))
      go_ret
      exact ⟨ret_int (by rw [E.out]), rfl⟩
    · have e := HH.out.2 hc
      have E := Lib.hid e
      clear e HH
      go_enter Try.func20, Try.ntmps20
      go_wp2_with (first
        | (go_at_call 33; (with_reducible refine (hP _).mono ?_); rintro e w' ⟨rfl, rfl⟩)
        | (go_at_call 16; (with_reducible refine (hD _).mono ?_); rintro e w' ⟨rfl, rfl⟩))
      go_ret
      exact ⟨ret_int (by rw [E.out]), rfl⟩
  · have h' : fracB a b = false := by simpa using h
    have hd : halfI a b = 0 := by simp [halfI, h']
    rw [hd]
    clear hd
    rw [h'] at hP
    clear h h'
    go_enter Try.func20, Try.ntmps20
    go_wp2_with (go_at_call 33; (with_reducible refine (hP _).mono ?_); rintro e w' ⟨rfl, rfl⟩)
    go_ret
    exact ⟨rfl, rfl⟩

end Go.Proofs.Ytdiogfjbjdiclaa
