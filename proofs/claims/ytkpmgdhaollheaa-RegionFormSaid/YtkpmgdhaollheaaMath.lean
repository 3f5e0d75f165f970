/- Plain arithmetic for package exact: quotients of whole numbers. -/
import Derived.IntWalk
import Derived.WalkKit
namespace Go.Proofs.Ytkpmgdhaollheaa

theorem ediv_of {a b q : Int} (hb : 1 ≤ b) (h1 : q * b ≤ a) (h2 : a < q * b + b) : a / b = q := by
  rw [Int.ediv_eq_iff_of_pos (by omega), Int.mul_comm]
  rw [Int.mul_comm] at h1 h2
  rw [Int.mul_comm]
  first | exact ⟨h1, h2⟩ | (rw [Int.mul_comm b q] at *; exact ⟨h1, h2⟩)

theorem tdiv_neg_rest {a b : Int} (hb : 1 ≤ b) (h : a.tmod b < 0) : a.tdiv b - 1 = a / b := by
  have h1 := Int.mul_tdiv_add_tmod a b
  have h2 := Int.lt_tmod_of_pos a (show (0 : Int) < b by omega)
  rw [Int.mul_comm] at h1
  exact (ediv_of hb (by rw [Int.sub_mul]; omega) (by rw [Int.sub_mul]; omega)).symm

theorem tdiv_pos_rest {a b : Int} (hb : 1 ≤ b) (h : 0 ≤ a.tmod b) : a.tdiv b = a / b := by
  have h1 := Int.mul_tdiv_add_tmod a b
  have h2 := Int.tmod_lt_of_pos a (show (0 : Int) < b by omega)
  rw [Int.mul_comm] at h1
  exact (ediv_of hb (by omega) (by omega)).symm

theorem ediv_lo (a b : Int) (hb : 1 ≤ b) : a / b * b ≤ a := Int.ediv_mul_le a (by omega)
theorem ediv_hi (a b : Int) (hb : 1 ≤ b) : a < a / b * b + b := by
  have := Int.lt_ediv_add_one_mul_self a (show 0 < b by omega)
  rw [Int.add_mul] at this; omega

theorem ediv_bd {a b M : Int} (hb : 1 ≤ b) (h1 : -M ≤ a) (h2 : a ≤ M) : -M ≤ a / b ∧ a / b ≤ M := by
  have l := ediv_lo a b hb
  have u := ediv_hi a b hb
  generalize a / b = q at *
  constructor
  · refine Classical.byContradiction fun h => ?_
    have : (q + 1) * b ≤ (q + 1) * 1 := Int.mul_le_mul_of_nonpos_left (by omega) hb
    rw [Int.add_mul] at this; omega
  · refine Classical.byContradiction fun h => ?_
    by_cases hq : 0 ≤ q
    · have : q * 1 ≤ q * b := Int.mul_le_mul_of_nonneg_left hb hq
      omega
    · have : q * b ≤ q * 1 := Int.mul_le_mul_of_nonpos_left (by omega) hb
      omega

theorem wf_i64 {a : Int} (h : (Lit.int .i64 a).wf = true) : -9223372036854775808 ≤ a ∧ a ≤ 9223372036854775807 := by
  have e1 : IntKind.i64.min = -9223372036854775808 := rfl
  have e2 : IntKind.i64.max = 9223372036854775807 := rfl
  simp [Lit.wf, e1, e2] at h
  exact h
theorem wf_i32 {a : Int} (h : (Lit.int .i32 a).wf = true) : -2147483648 ≤ a ∧ a ≤ 2147483647 := by
  have e1 : IntKind.i32.min = -2147483648 := rfl
  have e2 : IntKind.i32.max = 2147483647 := rfl
  simp [Lit.wf, e1, e2] at h
  exact h
theorem wf_i16 {a : Int} (h : (Lit.int .i16 a).wf = true) : -32768 ≤ a ∧ a ≤ 32767 := by
  have e1 : IntKind.i16.min = -32768 := rfl
  have e2 : IntKind.i16.max = 32767 := rfl
  simp [Lit.wf, e1, e2] at h
  exact h
theorem wf_i8 {a : Int} (h : (Lit.int .i8 a).wf = true) : -128 ≤ a ∧ a ≤ 127 := by
  have e1 : IntKind.i8.min = -128 := rfl
  have e2 : IntKind.i8.max = 127 := rfl
  simp [Lit.wf, e1, e2] at h
  exact h
theorem wf_u64 {a : Int} (h : (Lit.int .u64 a).wf = true) : 0 ≤ a ∧ a ≤ 18446744073709551615 := by
  have e1 : IntKind.u64.min = 0 := rfl
  have e2 : IntKind.u64.max = 18446744073709551615 := rfl
  simp [Lit.wf, e1, e2] at h
  exact h
theorem wf_u32 {a : Int} (h : (Lit.int .u32 a).wf = true) : 0 ≤ a ∧ a ≤ 4294967295 := by
  have e1 : IntKind.u32.min = 0 := rfl
  have e2 : IntKind.u32.max = 4294967295 := rfl
  simp [Lit.wf, e1, e2] at h
  exact h
theorem wf_u16 {a : Int} (h : (Lit.int .u16 a).wf = true) : 0 ≤ a ∧ a ≤ 65535 := by
  have e1 : IntKind.u16.min = 0 := rfl
  have e2 : IntKind.u16.max = 65535 := rfl
  simp [Lit.wf, e1, e2] at h
  exact h
theorem wf_u8 {a : Int} (h : (Lit.int .u8 a).wf = true) : 0 ≤ a ∧ a ≤ 255 := by
  have e1 : IntKind.u8.min = 0 := rfl
  have e2 : IntKind.u8.max = 255 := rfl
  simp [Lit.wf, e1, e2] at h
  exact h

end Go.Proofs.Ytkpmgdhaollheaa
