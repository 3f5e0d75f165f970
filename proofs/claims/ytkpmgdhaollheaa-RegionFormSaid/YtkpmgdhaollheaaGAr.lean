/- Areas of lists of rectangles. -/
import Derived.Test.YtkpmgdhaollheaaGVal
namespace Go.Proofs.Ytkpmgdhaollheaa
open Go.RowKit

def areaR (r : Rc) : Int := (r.r - r.l) * (r.h - r.b)
def areaL (l : List Rc) : Int := (l.map areaR).sum
theorem areaR_le {r : Rc} (h : properR r) : 0 ≤ areaR r ∧ areaR r ≤ 268435456 := by
  obtain ⟨a, b, c, d, e, f⟩ := h
  constructor
  · exact Int.mul_nonneg (by omega) (by omega)
  · exact Int.mul_le_mul (show r.r - r.l ≤ 16384 by omega) (show r.h - r.b ≤ 16384 by omega) (by omega) (by omega)
theorem areaL_le : ∀ {l : List Rc}, (∀ r ∈ l, properR r) → 0 ≤ areaL l ∧ areaL l ≤ 268435456 * l.length
  | [], _ => by simp [areaL]
  | r :: l, h => by
    have h1 := areaR_le (h r List.mem_cons_self)
    have h2 := areaL_le (l := l) fun q hq => h q (List.mem_cons_of_mem _ hq)
    simp only [areaL, List.map_cons, List.sum_cons, List.length_cons] at h2 ⊢
    omega
theorem areaL_take {l : List Rc} {k : Nat} (hk : k < l.length) : areaL (l.take (k + 1)) = areaL (l.take k) + areaR l[k]! := by
  rw [List.take_succ_eq_append_getElem hk, getElem!_pos l k hk]
  simp only [areaL, List.map_append, List.sum_append, List.map_cons, List.map_nil, List.sum_cons, List.sum_nil]
  omega

def AreaP (l : List Rc) (z : Int) : Prop := (ValidP l → z = areaL l) ∧ (¬ ValidP l → z = 0)
end Go.Proofs.Ytkpmgdhaollheaa
