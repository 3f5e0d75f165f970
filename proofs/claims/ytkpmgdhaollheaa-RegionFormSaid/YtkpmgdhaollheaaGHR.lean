/- slices.Equal of rectangles. -/
import Derived.Test.YtkpmgdhaollheaaGH
namespace Go.Proofs.Ytkpmgdhaollheaa
open Go.RowKit Go.Shelf

set_option maxHeartbeats 1000000 in
set_option maxRecDepth 100000 in
theorem equalR_any (v1 v2 : Value) (l m : List Rc) (w : World) (h1 : RowRd w 4 encR v1 l) (h2 : RowRd w 4 encR v2 m) (hl : l.length ≤ 1000000) (hm : m.length ≤ 1000000) :
    Calls Try.prog 52 #[v1, v2] w fun e w' => e = .returned (.bool (decide (l = m))) ∧ ∃ q, w' = w.drewN q := by
  obtain ⟨p1, c1, rfl, h1⟩ := h1
  obtain ⟨p2, c2, rfl, h2⟩ := h2
  by_cases hlen : l.length = m.length
  · by_cases h0 : l.length = 0
    · have e1 : l = [] := List.eq_nil_of_length_eq_zero h0
      have e2 : m = [] := List.eq_nil_of_length_eq_zero (by omega)
      subst e1 e2
      simp only [List.length_nil]
      clear h1 h2
      go_enter Try.func52, Try.ntmps52
      go_wp2
      go_loopw [13] (fun i wr => i = .int .i64 0 ∧ w = wr) (fun _ _ => 0)
      case atStart => exact ⟨rfl, rfl⟩
      case round =>
        obtain ⟨rfl, rfl⟩ := hrel
        go_wp2
        go_ret
        exact ⟨by simp, 0, rfl⟩
    · obtain ⟨b1, o1, rfl, _⟩ := h1 0 (by omega)
      obtain ⟨b2, o2, rfl, _⟩ := h2 0 (by omega)
      have := AnyQ.slices_Equal Try.equalR 4 Try.isAgg39 Try.sizeOf39 encR (fun _ => rfl) _ neqR b1 o1 l.length c1 b2 o2 m.length c2 l m w (Nat.le_refl _) (Nat.le_refl _) (by omega) (by omega)
        (fun j hj i u hu => by obtain ⟨b, o, e, hc⟩ := h1 j hj; cases e; exact hc i u hu) (fun j hj i u hu => by obtain ⟨b, o, e, hc⟩ := h2 j hj; cases e; exact hc i u hu)
      rw [List.take_of_length_le (Nat.le_refl _), List.take_of_length_le (Nat.le_refl _), allEq_dec] at this
      exact this
  · have e : decide (l = m) = false := decide_eq_false fun e => hlen (by rw [e])
    rw [e]
    generalize l.length = n at *
    generalize m.length = k at *
    have hne : ((n : Int) == (k : Int)) = false := beq_eq_false_iff_ne.2 (by omega)
    have hne2 : (n : Int) ≠ (k : Int) := by omega
    clear h1 h2 e
    go_enter Try.func52, Try.ntmps52
    go_wp2
    go_ret
    exact ⟨rfl, 0, rfl⟩

end Go.Proofs.Ytkpmgdhaollheaa
