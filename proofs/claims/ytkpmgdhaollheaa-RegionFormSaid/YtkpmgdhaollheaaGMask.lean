/- The set of lists, as the code keeps it: its bits. -/
import Derived.Test.YtkpmgdhaollheaaGEdN
import Derived.Test.YtkpmgdhaollheaaBase
import Derived.Laws.BitsAllLaws
namespace Go.Proofs.Ytkpmgdhaollheaa
open Go.RowKit

theorem wrap_small (n : Nat) (h : n < 9223372036854775808) : IntKind.i64.wrap (n : Int) = (n : Int) := by
  have e : (n : Int) % 2 ^ 64 = n := Int.emod_eq_of_lt (by omega) (by omega)
  simp only [IntKind.wrap, IntKind.bits, IntKind.signed, e]
  rw [if_neg]
  simp
  omega

theorem two62 {j : Nat} (h : j < 62) : 2 ^ j < 4611686018427387904 := by
  have := Nat.pow_lt_pow_right (a := 2) (by omega) h
  have e : (2 : Nat) ^ 62 = 4611686018427387904 := by decide
  omega
theorem mask62 {c : List Int} (h : c.length ≤ 62) : maskN (c.map fun v => decide (0 < v)) < 4611686018427387904 := by
  have h1 := maskN_lt (c.map fun v => decide (0 < v))
  rw [List.length_map] at h1
  have h2 := Nat.pow_le_pow_right (n := 2) (by omega) h
  have e : (2 : Nat) ^ 62 = 4611686018427387904 := by decide
  omega

theorem mask_bit (c : List Int) (i : Nat) : (maskN (c.map fun v => decide (0 < v))).testBit i = if h : i < c.length then decide (0 < c[i]) else false := by
  rw [testBit_mask, List.getD_eq_getElem?_getD, List.getElem?_map]
  by_cases h : i < c.length
  · rw [dif_pos h, List.getElem?_eq_getElem h]; rfl
  · rw [dif_neg h, List.getElem?_eq_none (by omega)]; rfl

theorem mask_clear {c : List Int} {j : Nat} (hl : c.length ≤ 62) (hj : j < c.length) : bits .andNot .i64 (maskC c) ((2 ^ j : Nat) : Int) = maskC (c.set j 0) := by
  have m1 := mask62 hl
  have m2 := two62 (show j < 62 by omega)
  have m3 := mask62 (c := c.set j 0) (by simpa using hl)
  unfold maskC
  show IntKind.i64.wrap ((BitVec.ofInt 64 _ &&& ~~~BitVec.ofInt 64 _).toNat : Int) = _
  have key : (BitVec.ofInt 64 ((maskN (c.map fun v => decide (0 < v)) : Nat) : Int) &&& ~~~BitVec.ofInt 64 ((2 ^ j : Nat) : Int)).toNat = maskN ((c.set j 0).map fun v => decide (0 < v)) := by
    apply Nat.eq_of_testBit_eq
    intro i
    rw [BitVec.testBit_toNat, BitVec.getLsbD_and, BitVec.getLsbD_not, BitVec.ofInt_natCast, BitVec.ofInt_natCast, BitVec.getLsbD_ofNat, BitVec.getLsbD_ofNat, mask_bit, mask_bit, Nat.testBit_two_pow]
    by_cases h : i < c.length
    · have h64 : i < 64 := by omega
      rw [dif_pos h, dif_pos (by simpa using h), List.getElem_set]
      by_cases hji : j = i
      · subst hji; simp [h64]
      · simp [h64, hji]
    · rw [dif_neg h, dif_neg (by simpa using h)]
      simp
  rw [key]
  exact wrap_small _ (by omega)

theorem mask_set {c : List Int} {j : Nat} {v : Int} (hl : c.length ≤ 62) (hj : j < c.length) (hv : 0 < v) : bits .or .i64 (maskC (c.set j 0)) ((2 ^ j : Nat) : Int) = maskC (c.set j v) := by
  have m1 := mask62 (c := c.set j 0) (by simpa using hl)
  have m2 := two62 (show j < 62 by omega)
  have m3 := mask62 (c := c.set j v) (by simpa using hl)
  unfold maskC
  show IntKind.i64.wrap ((BitVec.ofInt 64 _ ||| BitVec.ofInt 64 _).toNat : Int) = _
  have key : (BitVec.ofInt 64 ((maskN ((c.set j 0).map fun v => decide (0 < v)) : Nat) : Int) ||| BitVec.ofInt 64 ((2 ^ j : Nat) : Int)).toNat = maskN ((c.set j v).map fun v => decide (0 < v)) := by
    apply Nat.eq_of_testBit_eq
    intro i
    rw [BitVec.testBit_toNat, BitVec.getLsbD_or, BitVec.ofInt_natCast, BitVec.ofInt_natCast, BitVec.getLsbD_ofNat, BitVec.getLsbD_ofNat, mask_bit, mask_bit, Nat.testBit_two_pow]
    by_cases h : i < c.length
    · have h64 : i < 64 := by omega
      rw [dif_pos (by simpa using h), dif_pos (by simpa using h), List.getElem_set, List.getElem_set]
      by_cases hji : j = i
      · subst hji; simp [h64, hv]
      · simp [h64, hji]
    · have hji : ¬ j = i := by omega
      rw [dif_neg (by simpa using h), dif_neg (by simpa using h)]
      simp [hji]
  rw [key]
  exact wrap_small _ (by omega)

theorem mask_keep {c : List Int} {j : Nat} {v : Int} (hv : ¬ 0 < v) : maskC (c.set j 0) = maskC (c.set j v) := by
  unfold maskC
  rw [List.map_set, List.map_set]
  simp [hv]

theorem maskC_le {c : List Int} (h : c.length ≤ 62) : 0 ≤ maskC c ∧ maskC c < 4611686018427387904 := by
  have := mask62 h
  unfold maskC
  omega
end Go.Proofs.Ytkpmgdhaollheaa
