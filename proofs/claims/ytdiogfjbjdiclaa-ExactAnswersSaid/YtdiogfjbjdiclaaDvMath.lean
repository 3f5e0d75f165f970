/- Dividing two words by one, digit by digit in base 2^32: said of natural numbers. -/
import Derived.WalkKit
namespace Go.Proofs.Ytdiogfjbjdiclaa.Dv

theorem dig_ge {u y1 y0 v : Nat} (hv : v < 4294967296) (h1 : 0 < y1) : (u * 4294967296 + v) / (y1 * 4294967296 + y0) ≤ u / y1 := by
  refine (Nat.le_div_iff_mul_le h1).2 ?_
  have h := Nat.div_mul_le_self (u * 4294967296 + v) (y1 * 4294967296 + y0)
  generalize (u * 4294967296 + v) / (y1 * 4294967296 + y0) = q at *
  rw [Nat.mul_add, ← Nat.mul_assoc] at h
  generalize q * y1 = a at *
  generalize q * y0 = b at *
  omega

theorem dig_no {u y1 y0 v q r : Nat} (hq : q * y1 + r = u) (h : 4294967296 * r + v < q * y0) : (u * 4294967296 + v) / (y1 * 4294967296 + y0) < q := by
  have hY : 0 < y1 * 4294967296 + y0 := by
    refine Nat.pos_of_ne_zero fun e => ?_
    have : y0 = 0 := by omega
    subst this
    omega
  refine (Nat.div_lt_iff_lt_mul hY).2 ?_
  subst hq
  rw [Nat.mul_add, ← Nat.mul_assoc]
  generalize q * y1 = a at *
  generalize q * y0 = b at *
  omega

theorem dig_big {u Y v q : Nat} (hv : v < 4294967296) (hu : u < Y) (hq : 4294967296 ≤ q) : (u * 4294967296 + v) / Y < q := by
  refine Nat.lt_of_lt_of_le ((Nat.div_lt_iff_lt_mul (by omega)).2 ?_) hq
  omega

theorem dig_yes {u y1 y0 v q r : Nat} (hY : 0 < y1 * 4294967296 + y0) (hq : q * y1 + r = u) (h : q * y0 ≤ 4294967296 * r + v) (hge : (u * 4294967296 + v) / (y1 * 4294967296 + y0) ≤ q) : (u * 4294967296 + v) / (y1 * 4294967296 + y0) = q := by
  refine Nat.le_antisymm hge ((Nat.le_div_iff_mul_le hY).2 ?_)
  subst hq
  rw [Nat.mul_add, ← Nat.mul_assoc]
  generalize q * y1 = a at *
  generalize q * y0 = b at *
  omega

theorem dig_brk {u y1 y0 v q r : Nat} (hY : 0 < y1 * 4294967296 + y0) (hy0 : y0 < 4294967296) (hu : u < y1 * 4294967296 + y0) (hq : q * y1 + r = u) (hr : 4294967296 ≤ r) (hge : (u * 4294967296 + v) / (y1 * 4294967296 + y0) ≤ q) :
    (u * 4294967296 + v) / (y1 * 4294967296 + y0) = q := by
  have hqB : q ≤ 4294967296 := by
    refine Classical.byContradiction fun hn => ?_
    have h1 : 4294967297 * y1 ≤ q * y1 := Nat.mul_le_mul_right y1 (by omega)
    omega
  refine dig_yes hY hq ?_ hge
  have h1 : q * y0 ≤ 4294967296 * y0 := Nat.mul_le_mul_right y0 hqB
  omega

/-- Both digits, and what is left. -/
theorem two_digits {N v0 Y : Nat} (hY : 0 < Y) : (N * 4294967296 + v0) / Y = N / Y * 4294967296 + (N % Y * 4294967296 + v0) / Y ∧ (N * 4294967296 + v0) % Y = (N % Y * 4294967296 + v0) % Y := by
  have h := Nat.div_add_mod N Y
  have e : N * 4294967296 + v0 = Y * (N / Y * 4294967296) + (N % Y * 4294967296 + v0) := by
    have : N * 4294967296 = (Y * (N / Y) + N % Y) * 4294967296 := by rw [h]
    rw [this, Nat.add_mul, Nat.mul_assoc, Nat.add_assoc]
  rw [e]
  exact ⟨Nat.mul_add_div hY _ _, Nat.mul_add_mod _ _ _⟩

theorem shift_div (X y s : Nat) : X * 2 ^ s / (y * 2 ^ s) = X / y := Nat.mul_div_mul_right _ _ (Nat.two_pow_pos s)
theorem shift_mod (X y s : Nat) : X * 2 ^ s % (y * 2 ^ s) / 2 ^ s = X % y := by
  rw [Nat.mul_mod_mul_right, Nat.mul_div_cancel _ (Nat.two_pow_pos s)]

/-- The dividend's upper word, shifted. -/
theorem shift_hi (hi lo s : Nat) (hs : s ≤ 64) : (hi * 18446744073709551616 + lo) * 2 ^ s / 18446744073709551616 = hi * 2 ^ s + lo / 2 ^ (64 - s) := by
  have e : (hi * 18446744073709551616 + lo) * 2 ^ s = 18446744073709551616 * (hi * 2 ^ s) + lo * 2 ^ s := by
    rw [Nat.add_mul, Nat.mul_comm hi, Nat.mul_assoc]
  have e2 : (18446744073709551616 : Nat) = 2 ^ (64 - s) * 2 ^ s := by
    rw [← Nat.pow_add, show 64 - s + s = 64 by omega]
  rw [e, Nat.mul_add_div (by decide)]
  congr 1
  conv => lhs; rhs; rw [e2]
  exact Nat.mul_div_mul_right _ _ (Nat.two_pow_pos s)
theorem shift_lo (hi lo s : Nat) : (hi * 18446744073709551616 + lo) * 2 ^ s % 18446744073709551616 = lo * 2 ^ s % 18446744073709551616 := by
  have e : (hi * 18446744073709551616 + lo) * 2 ^ s = 18446744073709551616 * (hi * 2 ^ s) + lo * 2 ^ s := by
    rw [Nat.add_mul, Nat.mul_comm hi, Nat.mul_assoc]
  rw [e, Nat.mul_add_mod]
end Go.Proofs.Ytdiogfjbjdiclaa.Dv
