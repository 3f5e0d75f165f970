/- ExactRounds: rounding goes to the next whole number, and its three ways are mirror images. -/
import Derived.Test.YtdiogfjbjdiclaaAwake
namespace Go.Proofs.Ytdiogfjbjdiclaa
open Go.RowKit

set_option maxHeartbeats 1000000 in
theorem rounds_any (a b : Int) (ha : -2147483648 ≤ a) (ha2 : a ≤ 2147483647) (hb : 0 ≤ b) (hb2 : b ≤ 65535) (w : World) :
    Calls Try.prog 4 #[.int .i32 a, .int .u16 b] w fun e w' => e = .returned (.bool true) ∧ Below w.heap.size w w' := by
  have hf : fracB a (b + 1) = true := fracB_t (by omega) (by omega) (by omega) (by omega)
  have hf2 : fracB (-a) (b + 1) = true := fracB_t (by omega) (by omega) (by omega) (by omega)
  have hd : downI a (b + 1) = a / (b + 1) := by simp [downI, hf]
  have hu : upI a (b + 1) = -(-a / (b + 1)) := by simp [upI, hf]
  have hm : downI (-a) (b + 1) = -upI a (b + 1) := by rw [hu]; simp [downI, hf2]
  have hh : halfI a (b + 1) = (2 * a + (b + 1)) / (2 * (b + 1)) := by simp [halfI, hf]
  have l1 := ediv_lo a (b + 1) (by omega)
  have u1 := ediv_hi a (b + 1) (by omega)
  have l2 := ediv_lo (-a) (b + 1) (by omega)
  have u2 := ediv_hi (-a) (b + 1) (by omega)
  have l3 := ediv_lo (2 * a + (b + 1)) (2 * (b + 1)) (by omega)
  have u3 := ediv_hi (2 * a + (b + 1)) (2 * (b + 1)) (by omega)
  rw [← hd] at l1 u1
  rw [← hh] at l3 u3
  have bd1 := ediv_bd (a := a) (b := b + 1) (M := 2147483648) (by omega) (by omega) (by omega)
  have bd2 := ediv_bd (a := -a) (b := b + 1) (M := 2147483648) (by omega) (by omega) (by omega)
  have bd3 := ediv_bd (a := 2 * a + (b + 1)) (b := 2 * (b + 1)) (M := 4300000000) (by omega) (by omega) (by omega)
  rw [← hd] at bd1
  rw [← hh] at bd3
  have hup : -a / (b + 1) = -upI a (b + 1) := by rw [hu]; omega
  rw [hup] at l2 u2 bd2
  have D := fun w => down_any a (b + 1) w
  have U := fun w => up_any a (b + 1) w
  have H := fun w => half_any a (b + 1) w
  have M := fun w => down_any (-a) (b + 1) w
  rw [hm] at M
  clear hf hf2 hd hu hm hh hup
  generalize downI a (b + 1) = dn at *
  generalize upI a (b + 1) = up at *
  generalize halfI a (b + 1) = hl at *
  have c1 : (dn + 1) * (b + 1) = dn * (b + 1) + (b + 1) := by rw [Int.add_mul]; omega
  have c2 : (up - 1) * (b + 1) = up * (b + 1) - (b + 1) := by rw [Int.sub_mul]; omega
  have c3 : -up * (b + 1) = -(up * (b + 1)) := Int.neg_mul _ _
  have c4 : hl * (2 * (b + 1)) = 2 * hl * (b + 1) := by rw [← Int.mul_assoc, Int.mul_comm hl 2]
  have c5 : 2 * (hl + 1) * (b + 1) = 2 * hl * (b + 1) + 2 * (b + 1) := by
    rw [show (2 : Int) * (hl + 1) = 2 * hl + 2 by omega, Int.add_mul]
  rw [c3] at l2 u2
  rw [c4] at l3 u3
  have w1 : wrap64 (dn * (b + 1)) = dn * (b + 1) := wrap_in (by omega) (by omega)
  have w2 : wrap64 ((dn + 1) * (b + 1)) = (dn + 1) * (b + 1) := wrap_in (by omega) (by omega)
  have w3 : wrap64 (up * (b + 1)) = up * (b + 1) := wrap_in (by omega) (by omega)
  have w4 : wrap64 ((up - 1) * (b + 1)) = (up - 1) * (b + 1) := wrap_in (by omega) (by omega)
  have w5 : wrap64 (2 * hl * (b + 1)) = 2 * hl * (b + 1) := wrap_in (by omega) (by omega)
  have w6 : wrap64 (2 * (hl + 1) * (b + 1)) = 2 * (hl + 1) * (b + 1) := wrap_in (by omega) (by omega)
  have t1 : dn * (b + 1) ≤ a := l1
  have t2 : a < (dn + 1) * (b + 1) := by omega
  have t3 : a ≤ up * (b + 1) := by omega
  have t4 : (up - 1) * (b + 1) < a := by omega
  have t5 : 2 * hl * (b + 1) ≤ 2 * a + (b + 1) := by omega
  have t6 : 2 * a + (b + 1) < 2 * (hl + 1) * (b + 1) := by omega
  clear c1 c2 c3 c4 c5 l1 u1 l2 u2 l3 u3
  go_enter Try.func4, Try.ntmps4
  go_wp2_with (first
    | (go_at_call 15; first | ((with_reducible refine (D _).mono ?_); rintro e w' ⟨rfl, rfl⟩) | ((with_reducible refine (M _).mono ?_); rintro e w' ⟨rfl, rfl⟩))
    | (go_at_call 17; (with_reducible refine (U _).mono ?_); rintro e w' ⟨rfl, rfl⟩)
    | (go_at_call 19; (with_reducible refine (H _).mono ?_); rintro e w' ⟨rfl, rfl⟩)
    | (go_at_call 8; (with_reducible refine (awake_any _).mono ?_); rintro e w' ⟨rfl, hb⟩))
  go_ret
  exact ⟨rfl, hb⟩

theorem rounds_walk (a0 : Int) (w0 : (Lit.int .i32 a0).wf = true) (a1 : Int) (w1 : (Lit.int .u16 a1).wf = true) (W : World) :
    Calls Try.prog 4 #[.int .i32 a0, .int .u16 a1] W fun e w' => e = .returned (.bool true) ∧ Below W.heap.size W w' := by
  exact rounds_any a0 a1 (wf_i32 w0).1 (wf_i32 w0).2 (wf_u16 w1).1 (wf_u16 w1).2 W

end Go.Proofs.Ytdiogfjbjdiclaa
