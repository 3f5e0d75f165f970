/- ExactShares: no weight at all, and the walk whole. -/
import Derived.Test.YtdiogfjbjdiclaaShareWalk
namespace Go.Proofs.Ytdiogfjbjdiclaa
open Go.RowKit Go.Sort Go.Shelf Go.Lib

set_option maxHeartbeats 1000000 in
theorem share_nil (T cap : Nat) (hT : T ≤ 4294967295) (p : Option Addr) (W : World) :
    Calls Try.prog 6 #[.int .u32 T, .slice p 0 cap] W fun e w' => e = .returned (.bool true) ∧ Below W.heap.size W w' := by
  have hTz : (T : Int) ≤ 4294967295 := by omega
  have hSh := fun w => shares_none T (by omega) none 0 w
  have HSH := Lib.hid hSh
  clear hSh
  go_enter Try.func6, Try.ntmps6
  go_wp2
  go_loopw [5, 6, 7] (fun v5 v6 v7 wr => v5 = .slice none 0 0 ∧ v6 = .int .i64 0 ∧ v7 = .int .i64 0 ∧ W = wr) (fun _ _ _ _ => 0)
  case atStart => exact ⟨rfl, rfl, rfl, rfl⟩
  case round =>
    obtain ⟨rfl, rfl, rfl, rfl⟩ := hrel
    go_wp2_with fail
    refine (HSH.out _).mono ?_
    rintro e w' ⟨rfl, hb⟩
    go_wp2_with fail
    go_loop [10, 56] (fun va v => v = .int .i64 0 ∧ va = .int .i64 0) (fun _ _ => 0)
    case atStart => exact ⟨rfl, rfl⟩
    case round =>
      obtain ⟨rfl, rfl⟩ := hrel
      by_cases hT0 : T = 0
      · subst hT0
        go_wp2_with (go_at_call 8; (with_reducible refine (awake_any _).mono ?_); rintro e w2 ⟨rfl, hb3⟩)
        go_ret
        exact ⟨ret_bool (by simp), hb.trans (hb3.mono hb.size)⟩
      · have hT1 : ((0 : Int) == (T : Int)) = false := beq_eq_false_iff_ne.2 (by omega)
        have hT2 : ((T : Int) == 0) = false := beq_eq_false_iff_ne.2 (by omega)
        go_wp2_with (go_at_call 8; (with_reducible refine (awake_any _).mono ?_); rintro e w2 ⟨rfl, hb3⟩)
        go_ret
        exact ⟨ret_bool (by simp), hb.trans (hb3.mono hb.size)⟩

theorem shares_walk (a0 : Int) (w0 : (Lit.int .u32 a0).wf = true) (v1 : Value) (n1 : Nat) (g1 : Nat → Int) (W : World) (h1 : IntsAt .u16 W v1 n1 g1) :
    Calls Try.prog 6 #[.int .u32 a0, v1] W fun e w' => e = .returned (.bool true) ∧ Below W.heap.size W w' := by
  have b0 := wf_u32 w0
  obtain ⟨T, rfl⟩ := Int.eq_ofNat_of_zero_le b0.1
  obtain ⟨p, cap, rfl, hm, hc⟩ := h1
  by_cases hn : n1 = 0
  · subst hn
    exact share_nil T cap (by omega) p W
  · obtain ⟨_, b, off, rfl, hb, _⟩ := hc 0 (by omega)
    refine share_some T n1 b off cap (by omega) (by omega) hm (fun j => (g1 j).toNat) W hb fun j hj => ?_
    obtain ⟨hw, b', off', he, _, hcell⟩ := hc j hj
    have hr := wf_u16 hw
    simp only [Option.some.injEq, Addr.mk.injEq] at he
    obtain ⟨rfl, rfl, _⟩ := he
    refine ⟨by omega, ?_⟩
    rw [hcell, Int.toNat_of_nonneg hr.1]

end Go.Proofs.Ytdiogfjbjdiclaa
