/- Shares, said of numbers: the quotients and what is left over. -/
import Derived.Test.YtdiogfjbjdiclaaStab
namespace Go.Proofs.Ytdiogfjbjdiclaa
open Go.Sort
variable {k : Nat}

/-- The sum of f over the first j indices. -/
def sumTo (f : Nat → Nat) : Nat → Nat
  | 0 => 0
  | j + 1 => sumTo f j + f j

theorem sumTo_le (f : Nat → Nat) {j n : Nat} (h : j ≤ n) : sumTo f j ≤ sumTo f n := by
  induction n with
  | zero => have : j = 0 := by omega
            subst this; exact Nat.le_refl _
  | succ n ih =>
    by_cases e : j = n + 1
    · subst e; exact Nat.le_refl _
    · exact Nat.le_trans (ih (by omega)) (Nat.le_add_right _ _)
theorem le_sumTo (f : Nat → Nat) {j n : Nat} (h : j < n) : f j ≤ sumTo f n := by
  have h1 : sumTo f (j + 1) ≤ sumTo f n := sumTo_le f h
  have h2 : sumTo f (j + 1) = sumTo f j + f j := rfl
  omega
theorem sumTo_congr (f g : Nat → Nat) (n : Nat) (h : ∀ j, j < n → f j = g j) : sumTo f n = sumTo g n := by
  induction n with
  | zero => rfl
  | succ n ih => rw [sumTo, sumTo, ih (fun j hj => h j (by omega)), h n (by omega)]
theorem sumTo_add (f g : Nat → Nat) (n : Nat) : sumTo (fun j => f j + g j) n = sumTo f n + sumTo g n := by
  induction n with
  | zero => rfl
  | succ n ih => rw [sumTo, sumTo, sumTo, ih]; omega
theorem sumTo_mul (c : Nat) (f : Nat → Nat) (n : Nat) : sumTo (fun j => c * f j) n = c * sumTo f n := by
  induction n with
  | zero => rfl
  | succ n ih => rw [sumTo, sumTo, ih, Nat.mul_add]

def baseF (T S : Nat) (ws : Nat → Nat) (j : Nat) : Nat := T * ws j / S
def remF (T S : Nat) (ws : Nat → Nat) (j : Nat) : Nat := T * ws j % S

theorem base_rem (T S : Nat) (ws : Nat → Nat) (n : Nat) : S * sumTo (baseF T S ws) n + sumTo (remF T S ws) n = T * sumTo ws n := by
  rw [← sumTo_mul, ← sumTo_mul, ← sumTo_add]
  exact sumTo_congr _ _ n fun j _ => Nat.div_add_mod (T * ws j) S

theorem rem_lt (T S : Nat) (hS : 0 < S) (ws : Nat → Nat) (n : Nat) : sumTo (remF T S ws) n ≤ n * S ∧ (0 < n → sumTo (remF T S ws) n < n * S) := by
  induction n with
  | zero => simp [sumTo]
  | succ n ih =>
    have h : remF T S ws n < S := Nat.mod_lt _ hS
    rw [sumTo, Nat.add_mul]
    omega

/-- What is left over is less than the number of weights. -/
theorem left_facts (T S n : Nat) (hS : 0 < S) (ws : Nat → Nat) (hs : sumTo ws n = S) : sumTo (baseF T S ws) n ≤ T ∧ T - sumTo (baseF T S ws) n < n ∧ S * (T - sumTo (baseF T S ws) n) = sumTo (remF T S ws) n := by
  have h1 := base_rem T S ws n
  rw [hs] at h1
  have hn : 0 < n := by
    cases n with
    | zero => simp [sumTo] at hs; omega
    | succ n => omega
  have h2 := (rem_lt T S hS ws n).2 hn
  have h3 : sumTo (baseF T S ws) n ≤ T := by
    have : S * sumTo (baseF T S ws) n ≤ S * T := by rw [Nat.mul_comm S T]; omega
    exact Nat.le_of_mul_le_mul_left this hS
  have h4 : S * (T - sumTo (baseF T S ws) n) = sumTo (remF T S ws) n := by
    rw [Nat.mul_sub, Nat.mul_comm S T]; omega
  refine ⟨h3, ?_, h4⟩
  have : S * (T - sumTo (baseF T S ws) n) < S * n := by rw [h4, Nat.mul_comm]; exact h2
  exact Nat.lt_of_mul_lt_mul_left this

/-- How often j stands among the first t of a row. -/
def among (f : Nat → Nat) : Nat → Nat → Nat
  | 0, _ => 0
  | t + 1, j => among f t j + if j = f t then 1 else 0
theorem among_le (f : Nat → Nat) (t j : Nat) : among f t j ≤ t := by
  induction t with
  | zero => exact Nat.le_refl _
  | succ t ih => rw [among]; split <;> omega
theorem base_le (T S n : Nat) (ws : Nat → Nat) (hs : sumTo ws n = S) (j : Nat) (hj : j < n) : baseF T S ws j ≤ T := by
  unfold baseF
  have h1 : ws j ≤ S := hs ▸ le_sumTo ws hj
  by_cases hS : S = 0
  · subst hS; simp
  · exact (Nat.div_le_iff_le_mul_add_pred (by omega)).2 (by
      have := Nat.mul_le_mul_left T h1
      rw [Nat.mul_comm S T]; omega)

end Go.Proofs.Ytdiogfjbjdiclaa
