/- A stable sort over arrays: where each later element is compared with an earlier one alone, sorting by 'less' is sorting by a strict total order that agrees with it there. -/
import Derived.Sort.LotA
import Derived.Sort.Lot0
namespace Go.Proofs.Ytdiogfjbjdiclaa
open Go.Sort
variable {α : Type} [Inhabited α]

/-- The two orders agree on each later element against each earlier one, in [a, b). -/
def Agree (lt L : α → α → Bool) (a b : Nat) (d : Array α) : Prop := ∀ p q, a ≤ p → p < q → q < b → lt d[q]! d[p]! = L d[q]! d[p]!

theorem insInner_same (lt L : α → α → Bool) (a : Nat) : ∀ (j : Nat) (d : Array α), j < d.size → (∀ p, a ≤ p → p < j → lt d[j]! d[p]! = L d[j]! d[p]!) → insInner lt a j d = insInner L a j d
  | 0, d, _, _ => by rw [insInner, insInner]
  | j + 1, d, hj, h => by
    rw [insInner, insInner]
    by_cases ha : j + 1 > a
    · have e := h j (by omega) (by omega)
      rw [e]
      by_cases hl : L d[j + 1]! d[j]! = true
      · have ih := insInner_same lt L a j (swp d (j + 1) j) (by rw [size_swp]; omega) (fun p hp hpj => by
          rw [swp_right d (j + 1) j (by omega), swp_other d (j + 1) j p (by omega) (by omega)]
          exact h p hp (by omega))
        simp only [ha, hl, decide_true, Bool.and_self, if_true, ih]
      · simp only [hl, Bool.and_false]
        rfl
    · have hf : decide (j + 1 > a) = false := decide_eq_false ha
      simp only [hf, Bool.false_and]
      rfl

theorem insInner_perm (L : α → α → Bool) (a b : Nat) : ∀ (j : Nat) (d : Array α), j < b → b ≤ d.size → PermIn a b d (insInner L a j d)
  | 0, d, _, _ => by rw [insInner]; exact permIn_refl _ _ _
  | j + 1, d, hj, hb => by
    rw [insInner]
    split
    · next h =>
      have ha : a ≤ j := by
        have := (Bool.and_eq_true _ _).mp h
        have := of_decide_eq_true this.1
        omega
      exact permIn_trans _ _ _ _ _ (swp_permIn d a b (j + 1) j (by omega) hj ha (by omega) hb) (insInner_perm L a b j _ (by omega) (by rw [size_swp]; exact hb))
    · exact permIn_refl _ _ _

theorem outer_on (lt : α → α → Bool) (a b i : Nat) (d : Array α) (h : i < b) : insOuter lt a b i d = insOuter lt a b (i + 1) (insInner lt a i d) := by rw [insOuter, if_pos h]
theorem outer_end (lt : α → α → Bool) (a b i : Nat) (d : Array α) (h : ¬ i < b) : insOuter lt a b i d = d := by rw [insOuter, if_neg h]

theorem insOuter_same (lt L : α → α → Bool) (a b : Nat) : ∀ (n i : Nat) (d : Array α), b - i = n → a < i → b ≤ d.size →
    (∀ p q, a ≤ p → p < q → i ≤ q → q < b → lt d[q]! d[p]! = L d[q]! d[p]!) → insOuter lt a b i d = insOuter L a b i d
  | 0, i, d, hn, _, _, _ => by rw [outer_end lt a b i d (by omega), outer_end L a b i d (by omega)]
  | n + 1, i, d, hn, hai, hb, h => by
    rw [outer_on lt a b i d (by omega), outer_on L a b i d (by omega)]
    rw [insInner_same lt L a i d (by omega) (fun p hp hpi => h p i hp hpi (Nat.le_refl _) (by omega))]
    have hp := insInner_perm L a (i + 1) i d (by omega) (by omega)
    refine insOuter_same lt L a b n (i + 1) _ (by omega) (by omega) (by rw [hp.1]; exact hb) ?_
    intro p q hap hpq hiq hqb
    rw [hp.2.1 q (by omega)]
    by_cases c : p < i + 1
    · exact permIn_all d _ a (i + 1) (fun v => lt d[q]! v = L d[q]! v) (by omega) hp (fun k hk hk2 => h k q hk (by omega) (by omega) hqb) p hap c
    · rw [hp.2.1 p (by omega)]
      exact h p q hap hpq (by omega) hqb

theorem insertionSort_same (lt L : α → α → Bool) (a b : Nat) (d : Array α) (hb : b ≤ d.size) (h : Agree lt L a b d) : insertionSort lt d a b = insertionSort L d a b :=
  insOuter_same lt L a b _ (a + 1) d rfl (by omega) hb (fun p q h1 h2 _ h4 => h p q h1 h2 h4)

/-- d' is d with [a, b) sorted by L. -/
def SortedTo (L : α → α → Bool) (a b : Nat) (d d' : Array α) : Prop := PermIn a b d d' ∧ SortedIn L a b d'

theorem insertionSort_to (lt L : α → α → Bool) (hL : SWO L) (a b : Nat) (d : Array α) (hab : a ≤ b) (hb : b ≤ d.size) (h : Agree lt L a b d) : SortedTo L a b d (insertionSort lt d a b) := by
  rw [insertionSort_same lt L a b d hb h]
  exact insertionSort_holds hL d a b hab hb

end Go.Proofs.Ytdiogfjbjdiclaa
