/- Arithmetic of the reference's choice of who gets one more. -/
import Derived.Test.YtdiogfjbjdiclaaSharesErr
namespace Go.Proofs.Ytdiogfjbjdiclaa
open Go.RowKit

/-- Who has none yet, and has the greatest remainder (the first such), is the next of the order. -/
theorem pick_is (n : Nat) (rem f : Nat → Nat) (hO : OrderOk n rem f) (hf : ∀ j, j < n → f j < n) (t : Nat) (ht : t < n) (m : Nat) (hm : m < n) (hg : among f t m = 0)
    (hb : ∀ q, q < n → among f t q = 0 → rem q < rem m ∨ rem q = rem m ∧ m ≤ q) : m = f t := by
  obtain ⟨p, hp, rfl⟩ := hO.2 m hm
  have hpt : ¬ p < t := fun h => by have := among_pos f h; omega
  by_cases e : p = t
  · rw [e]
  have hlt : t < p := by omega
  have hft : among f t (f t) = 0 := among_none f fun q hq e2 => by
    have := hO.1 q t hq ht
    rw [e2] at this
    omega
  have h1 := hb (f t) (hf t ht) hft
  have h2 := hO.1 t p hlt hp
  omega

theorem free_at (n : Nat) (rem f : Nat → Nat) (hO : OrderOk n rem f) (t : Nat) (ht : t < n) : among f t (f t) = 0 :=
  among_none f fun q hq e2 => by
    have := hO.1 q t hq ht
    rw [e2] at this
    omega

/-- The inner loop: after i rounds. -/
def Best (rem f : Nat → Nat) (t i : Nat) (b : Int) : Prop :=
  (b = -1 ∧ ∀ q, q < i → among f t q ≠ 0) ∨ ∃ m : Nat, m < i ∧ b = (m : Int) ∧ among f t m = 0 ∧ ∀ q, q < i → among f t q = 0 → rem q < rem m ∨ rem q = rem m ∧ m ≤ q

theorem Best.start (rem f : Nat → Nat) (t : Nat) : Best rem f t 0 (-1) := .inl ⟨rfl, fun q h => by omega⟩
theorem Best.skip {rem f : Nat → Nat} {t i : Nat} {b : Int} (h : Best rem f t i b) (hg : among f t i ≠ 0) : Best rem f t (i + 1) b := by
  rcases h with ⟨h1, h2⟩ | ⟨m, h1, h2, h3, h4⟩
  · exact .inl ⟨h1, fun q hq => by
      by_cases e : q = i
      · rw [e]; exact hg
      · exact h2 q (by omega)⟩
  · exact .inr ⟨m, by omega, h2, h3, fun q hq h0 => by
      by_cases e : q = i
      · rw [e] at h0; exact absurd h0 hg
      · exact h4 q (by omega) h0⟩
theorem Best.first {rem f : Nat → Nat} {t i : Nat} (h : Best rem f t i (-1)) (hg : among f t i = 0) : Best rem f t (i + 1) (i : Int) := by
  rcases h with ⟨h1, h2⟩ | ⟨m, h1, h2, h3, h4⟩
  · exact .inr ⟨i, by omega, rfl, hg, fun q hq h0 => by
      by_cases e : q = i
      · rw [e]; exact .inr ⟨rfl, Nat.le_refl _⟩
      · exact absurd h0 (h2 q (by omega))⟩
  · omega
theorem Best.better {rem f : Nat → Nat} {t i m : Nat} (h : Best rem f t i (m : Int)) (hg : among f t i = 0) (hr : rem m < rem i) : Best rem f t (i + 1) (i : Int) := by
  rcases h with ⟨h1, h2⟩ | ⟨m', h1, h2, h3, h4⟩
  · omega
  · obtain rfl : m = m' := by omega
    exact .inr ⟨i, by omega, rfl, hg, fun q hq h0 => by
      by_cases e : q = i
      · rw [e]; exact .inr ⟨rfl, Nat.le_refl _⟩
      · have := h4 q (by omega) h0
        omega⟩
theorem Best.worse {rem f : Nat → Nat} {t i m : Nat} (h : Best rem f t i (m : Int)) (hr : ¬ rem m < rem i) : Best rem f t (i + 1) (m : Int) := by
  rcases h with ⟨h1, h2⟩ | ⟨m', h1, h2, h3, h4⟩
  · omega
  · obtain rfl : m = m' := by omega
    exact .inr ⟨m, by omega, rfl, h3, fun q hq h0 => by
      by_cases e : q = i
      · rw [e]; omega
      · exact h4 q (by omega) h0⟩
theorem Best.shape {rem f : Nat → Nat} {t i : Nat} {b : Int} (h : Best rem f t i b) : b = -1 ∨ ∃ m : Nat, m < i ∧ b = (m : Int) := by
  rcases h with ⟨h1, _⟩ | ⟨m, h1, h2, _⟩
  · exact .inl h1
  · exact .inr ⟨m, h1, h2⟩
theorem Best.is {n : Nat} {rem f : Nat → Nat} {t : Nat} {b : Int} (h : Best rem f t n b) (hO : OrderOk n rem f) (hf : ∀ j, j < n → f j < n) (ht : t < n) : b = ((f t : Nat) : Int) := by
  rcases h with ⟨_, h2⟩ | ⟨m, h1, h2, h3, h4⟩
  · exact absurd (free_at n rem f hO t ht) (h2 _ (hf t ht))
  · rw [h2, pick_is n rem f hO hf t ht m h1 h3 h4]
end Go.Proofs.Ytdiogfjbjdiclaa
