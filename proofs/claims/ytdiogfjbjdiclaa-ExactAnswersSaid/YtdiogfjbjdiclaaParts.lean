/- Part, and ExactParts and ExactOrder. -/
import Derived.Test.YtdiogfjbjdiclaaAwake
namespace Go.Proofs.Ytdiogfjbjdiclaa
open Go.RowKit

/-- What Part returns; (0, ErrRange) where it cannot. -/
def partOk (T p wh : Int) : Bool := amtB T && amtB p && divB wh && decide (T * p / wh ≤ 1125899906842624)
theorem partOk_iff {T p wh : Int} : partOk T p wh = true ↔ ((amtB T = true ∧ amtB p = true) ∧ divB wh = true) ∧ T * p / wh ≤ 1125899906842624 := by
  simp [partOk]

set_option maxHeartbeats 800000 in
theorem part_ok (T p wh : Nat) (hT : T ≤ 1099511627776) (hp : p ≤ 1099511627776) (hw0 : 0 < wh) (hw : wh ≤ 1099511627776) (hq : T * p / wh ≤ 1125899906842624) (hD : DivOk (T * p) wh) (w : World) :
    Calls Try.prog 13 #[.int .i64 T, .int .i64 p, .int .i64 wh] w fun e w' => e = .returned (.tuple #[.int .i64 ((T * p / wh : Nat) : Int), .int .i64 0]) ∧ ∃ q, w' = w.drewN q := by
  have h1 : amtB (T : Int) = true := amtB_iff.2 ⟨by omega, by omega⟩
  have h2 : amtB (p : Int) = true := amtB_iff.2 ⟨by omega, by omega⟩
  have h3 : divB (wh : Int) = true := divB_iff.2 ⟨by omega, by omega⟩
  have hP := fun w => product_any T p w (by omega) (by omega)
  unfold DivOk at hD
  -- the high word is below the divisor
  have hi : T * p / 18446744073709551616 < wh := by
    have h4 : T * p < (1125899906842624 + 1) * wh := by
      have := (Nat.div_lt_iff_lt_mul hw0).1 (Nat.lt_succ_of_le hq)
      exact this
    refine (Nat.div_lt_iff_lt_mul (by decide)).2 ?_
    have : (1125899906842624 + 1) * wh ≤ 18446744073709551616 * wh := Nat.mul_le_mul_right wh (by decide)
    rw [Nat.mul_comm wh]
    omega
  have HD := Lib.hid hD
  clear hD
  generalize T * p / wh = qq at *
  generalize T * p % wh = rr at *
  generalize T * p / 18446744073709551616 = ph at *
  generalize T * p % 18446744073709551616 = pl at *
  have hi' : ¬ (wh : Int) ≤ (ph : Int) := by omega
  have hq' : ¬ (1125899906842624 : Int) < (qq : Int) := by omega
  have hw1 : (wh : Int) ≤ 1099511627776 := by omega
  go_enter Try.func13, Try.ntmps13
  go_wp2_with (first
    | (go_at_call 26; (with_reducible refine (amount_any _ _).mono ?_); rintro e w' ⟨rfl, rfl⟩)
    | (go_at_call 27; (with_reducible refine (divisor_any _ _).mono ?_); rintro e w' ⟨rfl, rfl⟩)
    | (go_at_call 28; (with_reducible refine (hP _).mono ?_); rintro e w' ⟨rfl, rfl⟩)
    | (go_at_call 29; (with_reducible refine (HD.out _).mono ?_); rintro e w' ⟨rfl, q, rfl⟩))
  go_ret2
  exact ⟨rfl, _, rfl⟩

/-- The same of whole numbers that are not negative. -/
theorem part_int (T p wh : Int) (hT0 : 0 ≤ T) (hT : T ≤ 1099511627776) (hp0 : 0 ≤ p) (hp : p ≤ 1099511627776) (hw0 : 1 ≤ wh) (hw : wh ≤ 1099511627776) (hq : T * p / wh ≤ 1125899906842624) (hD : DivOk (T.toNat * p.toNat) wh.toNat) (w : World) :
    Calls Try.prog 13 #[.int .i64 T, .int .i64 p, .int .i64 wh] w fun e w' => e = .returned (.tuple #[.int .i64 (T * p / wh), .int .i64 0]) ∧ ∃ q, w' = w.drewN q := by
  obtain ⟨T, rfl⟩ := Int.eq_ofNat_of_zero_le hT0
  obtain ⟨p, rfl⟩ := Int.eq_ofNat_of_zero_le hp0
  obtain ⟨wh, rfl⟩ := Int.eq_ofNat_of_zero_le (show 0 ≤ wh by omega)
  have e : (T : Int) * (p : Int) / (wh : Int) = ((T * p / wh : Nat) : Int) := by rw [Int.natCast_ediv, Int.natCast_mul]
  rw [e] at hq ⊢
  exact part_ok T p wh (by omega) (by omega) (by omega) (by omega) (by omega) hD w

theorem mul_bd {n k N K : Int} (h0 : 0 ≤ n) (h1 : n ≤ N) (g0 : 0 ≤ k) (g1 : k ≤ K) : 0 ≤ n * k ∧ n * k ≤ N * K :=
  ⟨Int.mul_nonneg h0 g0, Int.mul_le_mul h1 g1 g0 (Int.le_trans h0 h1)⟩

theorem ediv_nn {a b M : Int} (hb : 1 ≤ b) (h0 : 0 ≤ a) (h1 : a ≤ M) : 0 ≤ a / b ∧ a / b ≤ M :=
  ⟨Int.ediv_nonneg h0 (by omega), Int.le_trans (Int.ediv_le_self b h0) h1⟩

theorem lowProd {n k N K : Int} (h0 : 0 ≤ n) (h1 : n ≤ N) (g0 : 0 ≤ k) (g1 : k ≤ K) (hNK : N * K < 18446744073709551616) : n.toNat * k.toNat < 18446744073709551616 := by
  have h := (mul_bd h0 h1 g0 g1).2
  obtain ⟨n, rfl⟩ := Int.eq_ofNat_of_zero_le h0
  obtain ⟨k, rfl⟩ := Int.eq_ofNat_of_zero_le g0
  rw [← Int.natCast_mul] at h
  simp only [Int.toNat_natCast]
  omega

set_option maxHeartbeats 1000000 in
theorem parts_any (n k v : Int) (hn0 : 0 ≤ n) (hn : n ≤ 4294967295) (hk0 : 0 ≤ k) (hk : k ≤ 65535) (hv0 : 0 ≤ v) (hv : v ≤ 65535) (w : World) :
    Calls Try.prog 5 #[.int .u32 n, .int .u16 k, .int .u16 v] w fun e w' => e = .returned (.bool true) ∧ Below w.heap.size w w' := by
  have b1 := mul_bd hn0 hn hk0 hk
  have b2 := mul_bd hn0 hn (show 0 ≤ k + 1 by omega) (show k + 1 ≤ 65536 by omega)
  have b3 := mul_bd hn0 hn (show 0 ≤ v + 1 by omega) (show v + 1 ≤ 65536 by omega)
  have d1 := ediv_nn (b := v + 1) (by omega) b1.1 b1.2
  have d2 := ediv_nn (b := v + 1) (by omega) b2.1 b2.2
  have d3 := ediv_nn (b := v + 1) (by omega) b3.1 b3.2
  have P1 := fun w => part_int n k (v + 1) hn0 (by omega) hk0 (by omega) (by omega) (by omega) (by omega) (divOk_low _ _ (lowProd hn0 hn hk0 hk (by decide)) (by omega)) w
  have P2 := fun w => part_int n (k + 1) (v + 1) hn0 (by omega) (by omega) (by omega) (by omega) (by omega) (by omega) (divOk_low _ _ (lowProd hn0 hn (show 0 ≤ k + 1 by omega) (show k + 1 ≤ 65536 by omega) (by decide)) (by omega)) w
  have P3 := fun w => part_int n (v + 1) (v + 1) hn0 (by omega) (by omega) (by omega) (by omega) (by omega) (by omega) (divOk_low _ _ (lowProd hn0 hn (show 0 ≤ v + 1 by omega) (show v + 1 ≤ 65536 by omega) (by decide)) (by omega)) w
  rw [Int.mul_ediv_cancel _ (show v + 1 ≠ 0 by omega)] at P3
  have l1 := ediv_lo (n * k) (v + 1) (by omega)
  have u1 := ediv_hi (n * k) (v + 1) (by omega)
  have m1 : n * k / (v + 1) ≤ n * (k + 1) / (v + 1) := Int.ediv_le_ediv (by omega) (Int.mul_le_mul_of_nonneg_left (by omega) hn0)
  clear b2 b3 d2 d3
  generalize n * k / (v + 1) = p at *
  generalize n * (k + 1) / (v + 1) = q at *
  have c1 : (p + 1) * (v + 1) = p * (v + 1) + (v + 1) := by rw [Int.add_mul]; omega
  rw [← c1] at u1
  have c2 : (p + 1) * (v + 1) ≤ n * k + 65536 := by omega
  clear c1
  have w1 : wrap64 (p * (v + 1)) = p * (v + 1) := wrap_in (Int.le_trans (by decide) (Int.mul_nonneg d1.1 (show 0 ≤ v + 1 by omega))) (by omega)
  have w2 : wrap64 ((p + 1) * (v + 1)) = (p + 1) * (v + 1) := wrap_in (by omega) (by omega)
  have w3 : wrap64 (n * k) = n * k := wrap_in (by omega) (by omega)
  go_enter Try.func5, Try.ntmps5
  go_wp2_with (first
    | (go_at_call 13; first | ((with_reducible refine (P1 _).mono ?_); rintro e w' ⟨rfl, q1, rfl⟩) | ((with_reducible refine (P2 _).mono ?_); rintro e w' ⟨rfl, q2, rfl⟩) | ((with_reducible refine (P3 _).mono ?_); rintro e w' ⟨rfl, q3, rfl⟩))
    | (go_at_call 8; (with_reducible refine (awake_any _).mono ?_); rintro e w' ⟨rfl, hb⟩))
  go_ret
  exact ⟨ret_bool (by simp), (below_drewN (Below.refl _ _) _).trans hb⟩

theorem parts_walk (a0 : Int) (w0 : (Lit.int .u32 a0).wf = true) (a1 : Int) (w1 : (Lit.int .u16 a1).wf = true) (a2 : Int) (w2 : (Lit.int .u16 a2).wf = true) (W : World) :
    Calls Try.prog 5 #[.int .u32 a0, .int .u16 a1, .int .u16 a2] W fun e w' => e = .returned (.bool true) ∧ Below W.heap.size W w' :=
  parts_any a0 a1 a2 (wf_u32 w0).1 (wf_u32 w0).2 (wf_u16 w1).1 (wf_u16 w1).2 (wf_u16 w2).1 (wf_u16 w2).2 W

/-! ### ExactOrder -/
theorem less_trans {a b c d x y : Int} (hb : 0 < b) (hd : 0 < d) (hy : 0 < y) (h1 : a * d < c * b) (h2 : c * y < x * d) : a * y < x * b := by
  have e1 : a * d * y < c * b * y := Int.mul_lt_mul_of_pos_right h1 hy
  have e2 : c * y * b < x * d * b := Int.mul_lt_mul_of_pos_right h2 hb
  have e3 : c * b * y = c * y * b := Int.mul_right_comm c b y
  have e4 : a * d * y = a * y * d := Int.mul_right_comm a d y
  have e5 : x * d * b = x * b * d := Int.mul_right_comm x d b
  have e6 : a * y * d < x * b * d := by omega
  exact Int.lt_of_mul_lt_mul_right e6 (by omega)

theorem mul_sym_bd {a d A D : Int} (h1 : -A ≤ a) (h2 : a ≤ A) (g0 : 0 ≤ d) (g1 : d ≤ D) (hA : 0 ≤ A) : -(A * D) ≤ a * d ∧ a * d ≤ A * D := by
  have e1 : a * d ≤ A * d := Int.mul_le_mul_of_nonneg_right h2 g0
  have e2 : -A * d ≤ a * d := Int.mul_le_mul_of_nonneg_right h1 g0
  have e3 : A * d ≤ A * D := Int.mul_le_mul_of_nonneg_left g1 hA
  rw [Int.neg_mul] at e2
  omega

theorem lessB_of {a b c d : Int} (h : fracB a b = true) (g : fracB c d = true) : lessB a b c d = decide (a * d < c * b) := by simp [lessB, h, g]

set_option maxHeartbeats 1000000 in
theorem order_any (a c x b d y : Int) (ha : -2147483648 ≤ a) (ha2 : a ≤ 2147483648) (hc : -2147483648 ≤ c) (hc2 : c ≤ 2147483648) (hx : -2147483648 ≤ x) (hx2 : x ≤ 2147483648)
    (hb : 0 ≤ b) (hb2 : b ≤ 65535) (hd : 0 ≤ d) (hd2 : d ≤ 65535) (hy : 0 ≤ y) (hy2 : y ≤ 65535) (w : World) :
    Calls Try.prog 7 #[.int .i32 a, .int .i32 c, .int .i32 x, .int .u16 b, .int .u16 d, .int .u16 y] w fun e w' => e = .returned (.bool true) ∧ Below w.heap.size w w' := by
  have fa : fracB a (b + 1) = true := fracB_t (by omega) (by omega) (by omega) (by omega)
  have fc : fracB c (d + 1) = true := fracB_t (by omega) (by omega) (by omega) (by omega)
  have fx : fracB x (y + 1) = true := fracB_t (by omega) (by omega) (by omega) (by omega)
  have L1 := less_any a (b + 1) c (d + 1)
  have L2 := less_any c (d + 1) a (b + 1)
  have L3 := less_any c (d + 1) x (y + 1)
  have L4 := less_any a (b + 1) x (y + 1)
  rw [lessB_of fa fc] at L1
  rw [lessB_of fc fa] at L2
  rw [lessB_of fc fx] at L3
  rw [lessB_of fa fx] at L4
  have b1 := mul_sym_bd ha ha2 (show 0 ≤ d + 1 by omega) (show d + 1 ≤ 65536 by omega) (by decide)
  have b2 := mul_sym_bd hc hc2 (show 0 ≤ b + 1 by omega) (show b + 1 ≤ 65536 by omega) (by decide)
  have w1 : wrap64 (a * (d + 1)) = a * (d + 1) := wrap_in (by omega) (by omega)
  have w2 : wrap64 (c * (b + 1)) = c * (b + 1) := wrap_in (by omega) (by omega)
  have tr := @less_trans a (b + 1) c (d + 1) x (y + 1) (by omega) (by omega) (by omega)
  clear fa fc fx b1 b2
  by_cases h1 : a * (d + 1) < c * (b + 1)
  · have e2 : decide (c * (b + 1) < a * (d + 1)) = false := decide_eq_false (by omega)
    rw [decide_eq_true h1] at L1
    rw [e2] at L2
    by_cases h3 : c * (y + 1) < x * (d + 1)
    · rw [decide_eq_true h3] at L3
      rw [decide_eq_true (tr h1 h3)] at L4
      clear tr e2 h3
      go_enter Try.func7, Try.ntmps7
      go_wp2_with (first
        | (go_at_call 21; first | ((with_reducible refine (L1 _).mono ?_); rintro e w' ⟨rfl, rfl⟩) | ((with_reducible refine (L2 _).mono ?_); rintro e w' ⟨rfl, rfl⟩) | ((with_reducible refine (L3 _).mono ?_); rintro e w' ⟨rfl, rfl⟩) | ((with_reducible refine (L4 _).mono ?_); rintro e w' ⟨rfl, rfl⟩))
        | (go_at_call 8; (with_reducible refine (awake_any _).mono ?_); rintro e w' ⟨rfl, hb⟩))
      go_ret
      exact ⟨rfl, hb⟩
    · rw [decide_eq_false h3] at L3
      clear tr e2 h3
      go_enter Try.func7, Try.ntmps7
      go_wp2_with (first
        | (go_at_call 21; first | ((with_reducible refine (L1 _).mono ?_); rintro e w' ⟨rfl, rfl⟩) | ((with_reducible refine (L2 _).mono ?_); rintro e w' ⟨rfl, rfl⟩) | ((with_reducible refine (L3 _).mono ?_); rintro e w' ⟨rfl, rfl⟩) | ((with_reducible refine (L4 _).mono ?_); rintro e w' ⟨rfl, rfl⟩))
        | (go_at_call 8; (with_reducible refine (awake_any _).mono ?_); rintro e w' ⟨rfl, hb⟩))
      go_ret
      exact ⟨rfl, hb⟩
  · have e1 : decide (a * (d + 1) < c * (b + 1)) = false := decide_eq_false h1
    rw [e1] at L1
    clear tr
    go_enter Try.func7, Try.ntmps7
    go_wp2_with (first
      | (go_at_call 21; first | ((with_reducible refine (L1 _).mono ?_); rintro e w' ⟨rfl, rfl⟩) | ((with_reducible refine (L2 _).mono ?_); rintro e w' ⟨rfl, rfl⟩) | ((with_reducible refine (L3 _).mono ?_); rintro e w' ⟨rfl, rfl⟩) | ((with_reducible refine (L4 _).mono ?_); rintro e w' ⟨rfl, rfl⟩))
      | (go_at_call 8; (with_reducible refine (awake_any _).mono ?_); rintro e w' ⟨rfl, hb⟩))
    go_ret
    exact ⟨rfl, hb⟩

theorem order_walk (a0 : Int) (w0 : (Lit.int .i32 a0).wf = true) (a1 : Int) (w1 : (Lit.int .i32 a1).wf = true) (a2 : Int) (w2 : (Lit.int .i32 a2).wf = true)
    (a3 : Int) (w3 : (Lit.int .u16 a3).wf = true) (a4 : Int) (w4 : (Lit.int .u16 a4).wf = true) (a5 : Int) (w5 : (Lit.int .u16 a5).wf = true) (W : World) :
    Calls Try.prog 7 #[.int .i32 a0, .int .i32 a1, .int .i32 a2, .int .u16 a3, .int .u16 a4, .int .u16 a5] W fun e w' => e = .returned (.bool true) ∧ Below W.heap.size W w' :=
  order_any a0 a1 a2 a3 a4 a5 (wf_i32 w0).1 (Int.le_trans (wf_i32 w0).2 (by decide)) (wf_i32 w1).1 (Int.le_trans (wf_i32 w1).2 (by decide)) (wf_i32 w2).1 (Int.le_trans (wf_i32 w2).2 (by decide))
    (wf_u16 w3).1 (wf_u16 w3).2 (wf_u16 w4).1 (wf_u16 w4).2 (wf_u16 w5).1 (wf_u16 w5).2 W

end Go.Proofs.Ytdiogfjbjdiclaa
