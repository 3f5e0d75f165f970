/- words.Decimal, words.Number: the numerals. -/
import Derived.Test.YtainjdmgncicmaaDoorWJ
import Derived.Lib.AtoiAll
import Derived.Lib.ItoaNum
import Derived.Lib.AppendIntMem
namespace Go.Proofs.YtainjdmgncicmaaDoor
open Go.RowKit Go.Shelf Go.Lib

theorem parse_snoc : ∀ (l : List UInt8) (acc : Nat) (c : UInt8), parseUint10 acc (l ++ [c]) = match parseUint10 acc l with
    | .ok v => parseUint10 v [c]
    | e => e := by
  intro l
  induction l with
  | nil => intro acc c; rfl
  | cons d r ih =>
    intro acc c
    simp only [List.cons_append, parseUint10]
    split
    · split
      · rfl
      · split
        · rfl
        · have := ih (acc * 10 + (d.toNat - 48)) c
          simpa [parseUint10] using this
    · rfl

theorem digit_nat {d : Nat} (h : d < 10) : (UInt8.ofNat (48 + d)).toNat = 48 + d := by
  rw [UInt8.toNat_ofNat']
  omega

theorem parse_dec (u : Nat) (h : u < 18446744073709551616) : parseUint10 0 (decDigits u) = .ok u := by
  induction u using Nat.strongRecOn with
  | _ u ih =>
    by_cases h1 : u < 10
    · rw [decDigits, dif_pos h1]
      have := digit_nat h1
      simp only [parseUint10, this]
      rw [if_pos (by omega), if_neg (by omega), if_neg (by omega)]
      congr 1
      omega
    · rw [decDigits, dif_neg h1, parse_snoc, ih (u / 10) (by omega) (by omega)]
      have h3 : u % 10 < 10 := Nat.mod_lt _ (by omega)
      have := digit_nat h3
      simp only [parseUint10, this]
      rw [if_pos (by omega), if_neg (by omega), if_neg (by omega)]
      congr 1
      omega

theorem dec_all (u : Nat) : ∀ c ∈ decDigits u, 48 ≤ c.toNat ∧ c.toNat ≤ 57 := by
  induction u using Nat.strongRecOn with
  | _ u ih =>
    intro c hc
    by_cases h1 : u < 10
    · rw [decDigits, dif_pos h1] at hc
      have := digit_nat h1
      rw [List.mem_singleton] at hc
      rw [hc, this]
      omega
    · rw [decDigits, dif_neg h1] at hc
      rcases List.mem_append.1 hc with hc | hc
      · exact ih (u / 10) (by omega) c hc
      · have h3 : u % 10 < 10 := Nat.mod_lt _ (by omega)
        have := digit_nat h3
        rw [List.mem_singleton] at hc
        rw [hc, this]
        omega

theorem dec_head (u : Nat) : ∃ c r, decDigits u = c :: r ∧ (0 < u → 48 < c.toNat) := by
  induction u using Nat.strongRecOn with
  | _ u ih =>
    by_cases h1 : u < 10
    · rw [decDigits, dif_pos h1]
      refine ⟨_, _, rfl, fun h => ?_⟩
      have := digit_nat h1
      simp only [this]
      omega
    · rw [decDigits, dif_neg h1]
      obtain ⟨c, r, e, h⟩ := ih (u / 10) (by omega)
      rw [e]
      exact ⟨c, _, rfl, fun _ => h (by omega)⟩

theorem atoi_itoa (n : Int) (h0 : -9223372036854775808 ≤ n) (h1 : n ≤ 9223372036854775807) : atoiAll (itoa n) = .ok n := by
  unfold itoa
  by_cases hn : n < 0
  · rw [if_pos hn]
    obtain ⟨c, r, e, _⟩ := dec_head n.natAbs
    have hp := parse_dec n.natAbs (by omega)
    unfold atoiAll
    have h45 : (45 : UInt8).toNat = 45 := rfl
    simp only []
    rw [if_pos (show UInt8.toNat 45 = 43 ∨ UInt8.toNat 45 = 45 from Or.inr h45)]
    unfold parseMag
    rw [if_neg (by rw [e]; simp), hp]
    simp only [h45, not_true_eq_false, false_and, if_false, true_and, if_true]
    rw [if_neg (by omega)]
    congr 1
    omega
  · rw [if_neg hn]
    obtain ⟨c, r, e, _⟩ := dec_head n.toNat
    have hp := parse_dec n.toNat (by omega)
    have hc := dec_all n.toNat c (by rw [e]; simp)
    rw [e] at hp ⊢
    unfold atoiAll
    simp only []
    rw [if_neg (by omega)]
    unfold parseMag
    rw [if_neg (by simp), hp]
    simp only []
    rw [if_neg (by omega), if_neg (by omega), if_neg (by omega)]
    congr 1
    omega

theorem nDigits_le : ∀ (k u : Nat), 1 ≤ k → u < 10 ^ k → nDigits u ≤ k := by
  intro k
  induction k with
  | zero => intro u h; omega
  | succ k ih =>
    intro u _ hu
    by_cases h1 : u < 10
    · rw [nDigits_small h1]; omega
    · rw [nDigits_big h1]
      by_cases hk : k = 0
      · subst hk; simp at hu; omega
      · have := ih (u / 10) (by omega) (by rw [Nat.pow_succ] at hu; omega)
        omega

theorem itoa_len (n : Int) (h0 : -9223372036854775808 ≤ n) (h1 : n ≤ 9223372036854775807) : (itoa n).length ≤ 20 ∧ 1 ≤ (itoa n).length := by
  unfold itoa
  by_cases hn : n < 0
  · rw [if_pos hn, List.length_cons, decDigits_length]
    have := nDigits_le 19 n.natAbs (by omega) (by have : (10 : Nat) ^ 19 = 10000000000000000000 := by decide
                                                  omega)
    omega
  · rw [if_neg hn, decDigits_length]
    have := nDigits_le 19 n.toNat (by omega) (by have : (10 : Nat) ^ 19 = 10000000000000000000 := by decide
                                                 omega)
    have := nDigits_pos n.toNat
    omega

theorem itoa_zero {v : Int} {r : List UInt8} (h : itoa v = 48 :: r) : r = [] := by
  unfold itoa at h
  by_cases hn : v < 0
  · rw [if_pos hn] at h
    injection h with h
    exact absurd h (by decide)
  · rw [if_neg hn] at h
    obtain ⟨c, r', e, hc⟩ := dec_head v.toNat
    rw [e] at h
    injection h with h1 h2
    by_cases h0 : 0 < v.toNat
    · have := hc h0
      rw [h1] at this
      exact absurd this (by decide)
    · have hz : v.toNat = 0 := by omega
      rw [hz, decDigits, dif_pos (by omega)] at e
      injection e with e1 e2
      rw [← h2, ← e2]

theorem atoi_range {l : List UInt8} {v : Int} (h : atoiAll l = .ok v) : -9223372036854775808 ≤ v ∧ v ≤ 9223372036854775807 := by
  cases l with
  | nil => simp [atoiAll] at h
  | cons c r =>
    simp only [atoiAll] at h
    split at h
    · cases h
    · cases h
    · rename_i u hu
      split at h
      · cases h
      · split at h
        · cases h
        · injection h with h
          split at h <;> omega
end Go.Proofs.YtainjdmgncicmaaDoor
