/- ExactAnswers: the walk. -/
import Derived.Test.YtdiogfjbjdiclaaAnsA
namespace Go.Proofs.Ytdiogfjbjdiclaa
open Go.RowKit

theorem partR_shape (T p wh : Int) : ∃ x e : Int, partR T p wh = .tuple #[.int .i64 x, .int .i64 e] := by
  unfold partR
  split
  · exact ⟨_, _, rfl⟩
  · exact ⟨_, _, rfl⟩

theorem same' {f : FuncId} {args : Array Value} {v : Value} (h : ∀ w, Calls Try.prog f args w fun e w' => e = .returned v ∧ w = w') : ∀ w, Calls Try.prog f args w fun e w' => e = .returned v ∧ w' = w :=
  fun w => (h w).mono fun _ _ h => ⟨h.1, h.2.symm⟩

theorem wf_small {x : Int} (h : 0 ≤ x ∧ x < 9) : (Lit.int .i64 x).wf = true := by
  rcases (show x = 0 ∨ x = 1 ∨ x = 2 ∨ x = 3 ∨ x = 4 ∨ x = 5 ∨ x = 6 ∨ x = 7 ∨ x = 8 by omega) with rfl | rfl | rfl | rfl | rfl | rfl | rfl | rfl | rfl <;> decide

theorem two_rows {W w : World} (hB : Below W.heap.size W w) {p : Option Addr} {n cap : Nat} {g : Nat → Int} (h : IntsAt .i64 W (.slice p n cap) n g) (k0 k1 k2 k3 : Int)
    (m0 : 0 ≤ k0 ∧ k0 < 9) (m1 : 0 ≤ k1 ∧ k1 < 9) (m2 : 0 ≤ k2 ∧ k2 < 9) (m3 : 0 ≤ k3 ∧ k3 < 9) :
    Below W.heap.size W ((w.alloc (.cells #[.int .i64 k0, .int .i64 k1, .int .i64 k2, .int .i64 k3] 3)).alloc (.cells #[.slice p n cap, .slice (some ⟨w.heap.size, 0, none⟩) 4 4] 22)) ∧
    w.heap.size + 1 < ((w.alloc (.cells #[.int .i64 k0, .int .i64 k1, .int .i64 k2, .int .i64 k3] 3)).alloc (.cells #[.slice p n cap, .slice (some ⟨w.heap.size, 0, none⟩) 4 4] 22)).heap.size ∧
    ∀ j, j < 2 → ∃ v m f, ((w.alloc (.cells #[.int .i64 k0, .int .i64 k1, .int .i64 k2, .int .i64 k3] 3)).alloc (.cells #[.slice p n cap, .slice (some ⟨w.heap.size, 0, none⟩) 4 4] 22)).cell? ⟨w.heap.size + 1, j, none⟩ = some v ∧
      IntsAt .i64 ((w.alloc (.cells #[.int .i64 k0, .int .i64 k1, .int .i64 k2, .int .i64 k3] 3)).alloc (.cells #[.slice p n cap, .slice (some ⟨w.heap.size, 0, none⟩) 4 4] 22)) v m f := by
  have hb := (hB.alloc hB.size (.cells #[.int .i64 k0, .int .i64 k1, .int .i64 k2, .int .i64 k3] 3)).alloc (by have := hB.size; simp; omega) (.cells #[.slice p n cap, .slice (some ⟨w.heap.size, 0, none⟩) 4 4] 22)
  refine ⟨hb, by simp, fun j hj => ?_⟩
  rcases (show j = 0 ∨ j = 1 by omega) with rfl | rfl
  · exact ⟨_, n, g, by simp, h.keep hb (Nat.le_refl _)⟩
  · refine ⟨.slice (some ⟨w.heap.size, 0, none⟩) 4 4, 4, fun i => if i = 0 then k0 else if i = 1 then k1 else if i = 2 then k2 else k3, by simp, some ⟨w.heap.size, 0, none⟩, 4, rfl, by decide, fun i hi => ?_⟩
    rcases (show i = 0 ∨ i = 1 ∨ i = 2 ∨ i = 3 by omega) with rfl | rfl | rfl | rfl
    · exact ⟨wf_small (by simpa using m0), w.heap.size, 0, rfl, by simp; omega, by simp⟩
    · exact ⟨wf_small (by simpa using m1), w.heap.size, 0, rfl, by simp; omega, by simp⟩
    · exact ⟨wf_small (by simpa using m2), w.heap.size, 0, rfl, by simp; omega, by simp⟩
    · exact ⟨wf_small (by simpa using m3), w.heap.size, 0, rfl, by simp; omega, by simp⟩

theorem three_ints {w : World} (x y z : Int) : w.heap.size < (w.alloc (.cells #[.int .i64 x, .int .i64 y, .int .i64 z] 3)).heap.size ∧ ∀ k, k < 3 → ∃ t : Int, (w.alloc (.cells #[.int .i64 x, .int .i64 y, .int .i64 z] 3)).cell? ⟨w.heap.size, k, none⟩ = some (.int .i64 t) := by
  refine ⟨by simp, fun k hk => ?_⟩
  rcases (show k = 0 ∨ k = 1 ∨ k = 2 by omega) with rfl | rfl | rfl
  · exact ⟨x, by simp⟩
  · exact ⟨y, by simp⟩
  · exact ⟨z, by simp⟩

set_option maxHeartbeats 2000000 in
set_option maxRecDepth 100000 in
theorem answers_walk (a0 : Int) (w0 : (Lit.int .i64 a0).wf = true) (a1 : Int) (w1 : (Lit.int .i64 a1).wf = true) (a2 : Int) (w2 : (Lit.int .i64 a2).wf = true) (a3 : Int) (w3 : (Lit.int .i64 a3).wf = true)
    (v4 : Value) (n4 : Nat) (g4 : Nat → Int) (v5 : Value) (n5 : Nat) (g5 : Nat → Int) (W : World) (h4 : IntsAt .i64 W v4 n4 g4) (h5 : IntsAt .i64 W v5 n5 g5) (c5 : CapAt v5) :
    Calls Try.prog 3 #[.int .i64 a0, .int .i64 a1, .int .i64 a2, .int .i64 a3, v4, v5] W fun e w' => e = .returned (.bool true) ∧ Below W.heap.size W w' := by
  have h4' := h4
  obtain ⟨p4, cap4, rfl, hm4, hc4⟩ := h4
  by_cases hn : 80 < n4
  · have hn' : (80 : Int) < (n4 : Int) := by omega
    go_enter Try.func3, Try.ntmps3
    go_wp2_with (go_at_call 8; (with_reducible refine (awake_any _).mono ?_); rintro e w2 ⟨rfl, hb3⟩)
    go_ret
    exact ⟨rfl, hb3⟩
  · have hn' : ¬ (80 : Int) < (n4 : Int) := by omega
    have hNew := new_any v5 n5 g5 W h5 c5
    have H4 := Lib.hid h4'
    clear h4' hc4 h5 c5 hm4
    go_enter Try.func3, Try.ntmps3
    go_wp2_with (go_at_call 9; (with_reducible refine hNew.mono ?_); rintro e w' ⟨rfl, hb, ht, hz⟩)
    have hN1 := next_any w' W.heap.size ht 35184372088832 (by omega)
    clear ht
    refine hN1.mono ?_
    rintro e w1 ⟨x1, rfl, _, hb1, ht1⟩
    have hN2 := range_any w1 W.heap.size ht1 1 1099511627776 (by omega) (by omega) (by omega) (by omega)
    clear hN1 hNew
    go_wp2_with (go_at_call 11; (with_reducible refine hN2.mono ?_); rintro e w2 ⟨x2, rfl, _, hb2, ht2⟩)
    have hN3 := next_any w2 W.heap.size ht2 35184372088832 (by omega)
    clear hN2 ht1
    refine hN3.mono ?_
    rintro e w3 ⟨x3, rfl, _, hb3, ht3⟩
    have hN4 := range_any w3 W.heap.size ht3 1 1099511627776 (by omega) (by omega) (by omega) (by omega)
    clear hN3 ht2
    go_wp2_with (go_at_call 11; (with_reducible refine hN4.mono ?_); rintro e w4 ⟨x4, rfl, _, hb4, ht4⟩)
    have hB : Below W.heap.size W w4 := (((hb.trans hb1).trans hb2).trans hb3).trans hb4
    clear hb hb1 hb2 hb3 hb4 ht3 ht4 hN4
    generalize wrap64 (x1 - 17592186044416) = y1
    generalize wrap64 (x3 - 17592186044416) = y3
    have hM40 := fun k w => mod_any k 40 (by omega) w
    have hM9 := fun k w => mod_any k 9 (by omega) w
    refine (hM40 a0 _).mono ?_
    rintro e w' ⟨rfl, rfl⟩
    go_wp2_with (first
      | (go_at_call 12; (with_reducible refine (hM9 _ _).mono ?_); rintro e w' ⟨rfl, rfl⟩)
      | (go_at_call 12; (with_reducible refine (hM40 _ _).mono ?_); rintro e w' ⟨rfl, rfl⟩))
    have hsz : ∃ s, s = w4.heap.size := ⟨_, rfl⟩
    obtain ⟨s, hs⟩ := hsz
    generalize wrap64 (modI a0 40 - 20) = z0
    generalize wrap64 (1 + modI a1 9) = z1
    generalize wrap64 (modI a2 40 - 20) = z2
    generalize wrap64 (1 + modI a3 9) = z3
    rw [← hs]
    have hB5 := hB.alloc hB.size (.cells #[.int .i64 a0, .int .i64 a1, .int .i64 a2, .int .i64 a3, .int .i64 y1, .int .i64 x2, .int .i64 y3, .int .i64 x4, .int .i64 a0, .int .i64 x2, .int .i64 a2, .int .i64 x4, .int .i64 z0, .int .i64 z1, .int .i64 z2, .int .i64 z3] 28)
    have hq : ∀ i, i < 4 → ∃ q0 q1 q2 q3 : Int, (w4.alloc (.cells #[.int .i64 a0, .int .i64 a1, .int .i64 a2, .int .i64 a3, .int .i64 y1, .int .i64 x2, .int .i64 y3, .int .i64 x4, .int .i64 a0, .int .i64 x2, .int .i64 a2, .int .i64 x4, .int .i64 z0, .int .i64 z1, .int .i64 z2, .int .i64 z3] 28)).cell? ⟨s, i * 4, none⟩ = some (.int .i64 q0) ∧ (w4.alloc (.cells #[.int .i64 a0, .int .i64 a1, .int .i64 a2, .int .i64 a3, .int .i64 y1, .int .i64 x2, .int .i64 y3, .int .i64 x4, .int .i64 a0, .int .i64 x2, .int .i64 a2, .int .i64 x4, .int .i64 z0, .int .i64 z1, .int .i64 z2, .int .i64 z3] 28)).cell? ⟨s, i * 4 + 1, none⟩ = some (.int .i64 q1) ∧ (w4.alloc (.cells #[.int .i64 a0, .int .i64 a1, .int .i64 a2, .int .i64 a3, .int .i64 y1, .int .i64 x2, .int .i64 y3, .int .i64 x4, .int .i64 a0, .int .i64 x2, .int .i64 a2, .int .i64 x4, .int .i64 z0, .int .i64 z1, .int .i64 z2, .int .i64 z3] 28)).cell? ⟨s, i * 4 + 2, none⟩ = some (.int .i64 q2) ∧ (w4.alloc (.cells #[.int .i64 a0, .int .i64 a1, .int .i64 a2, .int .i64 a3, .int .i64 y1, .int .i64 x2, .int .i64 y3, .int .i64 x4, .int .i64 a0, .int .i64 x2, .int .i64 a2, .int .i64 x4, .int .i64 z0, .int .i64 z1, .int .i64 z2, .int .i64 z3] 28)).cell? ⟨s, i * 4 + 3, none⟩ = some (.int .i64 q3) := by
      intro i hi
      subst hs
      rcases (show i = 0 ∨ i = 1 ∨ i = 2 ∨ i = 3 by omega) with rfl | rfl | rfl | rfl
      · exact ⟨a0, a1, a2, a3, by simp, by simp, by simp, by simp⟩
      · exact ⟨y1, x2, y3, x4, by simp, by simp, by simp, by simp⟩
      · exact ⟨a0, x2, a2, x4, by simp, by simp, by simp, by simp⟩
      · exact ⟨z0, z1, z2, z3, by simp, by simp, by simp, by simp⟩
    have hs5 : s < (w4.alloc (.cells #[.int .i64 a0, .int .i64 a1, .int .i64 a2, .int .i64 a3, .int .i64 y1, .int .i64 x2, .int .i64 y3, .int .i64 x4, .int .i64 a0, .int .i64 x2, .int .i64 a2, .int .i64 x4, .int .i64 z0, .int .i64 z1, .int .i64 z2, .int .i64 z3] 28)).heap.size := by rw [hs]; simp
    clear hB hs
    generalize w4.alloc (.cells #[.int .i64 a0, .int .i64 a1, .int .i64 a2, .int .i64 a3, .int .i64 y1, .int .i64 x2, .int .i64 y3, .int .i64 x4, .int .i64 a0, .int .i64 x2, .int .i64 a2, .int .i64 x4, .int .i64 z0, .int .i64 z1, .int .i64 z2, .int .i64 z3] 28) = w5 at *
    have HQ := Lib.hid hq
    clear hq
    go_loopw [78] (fun v wr => ∃ i : Nat, i ≤ 4 ∧ v = .int .i64 i ∧ Below w5.heap.size w5 wr) (fun v _ => 4 - (intOf v).toNat)
    case atStart => exact ⟨0, Nat.zero_le _, rfl, Below.refl _ _⟩
    case round =>
      obtain ⟨i, hi, rfl, hbr⟩ := hrel
      by_cases hlt : i < 4
      · obtain ⟨q0, q1, q2, q3, e0, e1, e2, e3⟩ := HQ.out i hlt
        rw [← hbr.cell (by exact hs5)] at e0 e1 e2 e3
        have hlt' : (i : Int) < 4 := by omega
        go_wp2_with fail
        have hb6 : Below w5.heap.size w5 (wr.alloc (.cells #[.int .i64 q0, .int .i64 q1, .int .i64 q2, .int .i64 q3] 28)) := hbr.alloc hbr.size _
        have f0 : (wr.alloc (.cells #[.int .i64 q0, .int .i64 q1, .int .i64 q2, .int .i64 q3] 28)).cell? ⟨wr.heap.size, 0, none⟩ = some (.int .i64 q0) := by simp
        have f1 : (wr.alloc (.cells #[.int .i64 q0, .int .i64 q1, .int .i64 q2, .int .i64 q3] 28)).cell? ⟨wr.heap.size, 1, none⟩ = some (.int .i64 q1) := by simp
        have f2 : (wr.alloc (.cells #[.int .i64 q0, .int .i64 q1, .int .i64 q2, .int .i64 q3] 28)).cell? ⟨wr.heap.size, 2, none⟩ = some (.int .i64 q2) := by simp
        have f3 : (wr.alloc (.cells #[.int .i64 q0, .int .i64 q1, .int .i64 q2, .int .i64 q3] 28)).cell? ⟨wr.heap.size, 3, none⟩ = some (.int .i64 q3) := by simp
        clear e0 e1 e2 e3 hbr
        generalize wr.alloc (.cells #[.int .i64 q0, .int .i64 q1, .int .i64 q2, .int .i64 q3] 28) = w6 at *
        generalize wr.heap.size = d at *
        obtain ⟨px, pe, hps⟩ := partR_shape q0 q2 q1
        have hP1 := fun w => part_any q0 q2 q1 w
        have hP2 := fun w => refPart_any q0 q2 q1 w
        rw [hps] at hP1 hP2
        clear hps
        refine (hP1 _).mono ?_
        rintro e w' ⟨rfl, q, rfl⟩
        replace hb6 : Below w5.heap.size w5 (w6.drewN q) := ⟨hb6.os, hb6.tape, hb6.output, hb6.size, hb6.block⟩
        replace f0 : (w6.drewN q).cell? ⟨d, 0, none⟩ = some (.int .i64 q0) := f0
        replace f1 : (w6.drewN q).cell? ⟨d, 1, none⟩ = some (.int .i64 q1) := f1
        replace f2 : (w6.drewN q).cell? ⟨d, 2, none⟩ = some (.int .i64 q2) := f2
        replace f3 : (w6.drewN q).cell? ⟨d, 3, none⟩ = some (.int .i64 q3) := f3
        generalize w6.drewN q = w7 at *
        go_wp2_with fail
        refine (hP2 _).mono ?_
        rintro e w' ⟨rfl, q', rfl⟩
        replace hb6 : Below w5.heap.size w5 (w7.drewN q') := ⟨hb6.os, hb6.tape, hb6.output, hb6.size, hb6.block⟩
        replace f0 : (w7.drewN q').cell? ⟨d, 0, none⟩ = some (.int .i64 q0) := f0
        replace f1 : (w7.drewN q').cell? ⟨d, 1, none⟩ = some (.int .i64 q1) := f1
        replace f2 : (w7.drewN q').cell? ⟨d, 2, none⟩ = some (.int .i64 q2) := f2
        replace f3 : (w7.drewN q').cell? ⟨d, 3, none⟩ = some (.int .i64 q3) := f3
        generalize w7.drewN q' = w8 at *
        clear hP1 hP2
        have k1 := same' (down_any q0 q1)
        have k2 := same' (refDown_any q0 q1)
        have k3 := same' (up_any q0 q1)
        have k4 := same' (refUp_any q0 q1)
        have k5 := same' (half_any q0 q1)
        have k6 := same' (refHalf_any q0 q1)
        have k7 := same' (less_any q0 q1 q2 q3)
        have k8 := same' (refLess_any q0 q1 q2 q3)
        generalize downI q0 q1 = r1 at k1 k2
        generalize upI q0 q1 = r2 at k3 k4
        generalize halfI q0 q1 = r3 at k5 k6
        generalize lessB q0 q1 q2 q3 = r4 at k7 k8
        go_wp2_with fail
        go_quiet (first
          | (go_at_call 15; exact Calls.quiet_of_same (k1 _))
          | (go_at_call 16; exact Calls.quiet_of_same (k2 _))
          | (go_at_call 17; exact Calls.quiet_of_same (k3 _))
          | (go_at_call 18; exact Calls.quiet_of_same (k4 _))
          | (go_at_call 19; exact Calls.quiet_of_same (k5 _))
          | (go_at_call 20; exact Calls.quiet_of_same (k6 _))
          | (go_at_call 21; exact Calls.quiet_of_same (k7 _))
          | (go_at_call 22; exact Calls.quiet_of_same (k8 _)))
        go_wp2_with fail
        go_roundw
        case rel => exact ⟨i + 1, by omega, by go_num, ⟨hb6.os, hb6.tape, hb6.output, hb6.size, hb6.block⟩⟩
        case measure => simp [intOf]; omega
      · obtain rfl : i = 4 := by omega
        have hB6 : Below W.heap.size W wr := hB5.trans (hbr.mono hB5.size)
        clear hbr HQ hB5 hlt hi hs5
        go_wp2_with (go_at_call 12; (with_reducible refine (hM9 _ _).mono ?_); rintro e w' ⟨rfl, rfl⟩)
        have m0 := modI_range a0 9 (by omega)
        have m1 := modI_range a1 9 (by omega)
        have m2 := modI_range a2 9 (by omega)
        have m3 := modI_range a3 9 (by omega)
        generalize modI a0 9 = k0 at *
        generalize modI a1 9 = k1 at *
        generalize modI a2 9 = k2 at *
        generalize modI a3 9 = k3 at *
        have hr := two_rows (W := W) (w := wr) hB6 H4.out k0 k1 k2 k3 m0 m1 m2 m3
        have HR := Lib.hid hr
        clear hr m0 m1 m2 m3
        generalize (wr.alloc (.cells #[.int .i64 k0, .int .i64 k1, .int .i64 k2, .int .i64 k3] 3)).alloc (.cells #[.slice p4 n4 cap4, .slice (some ⟨wr.heap.size, 0, none⟩) 4 4] 22) = w9 at *
        generalize wr.heap.size + 1 = c2 at *
        go_loopw [183] (fun v wq => ∃ j : Nat, j ≤ 2 ∧ v = .int .i64 j ∧ Below w9.heap.size w9 wq) (fun v _ => 2 - (intOf v).toNat)
        case atStart => exact ⟨0, Nat.zero_le _, rfl, Below.refl _ _⟩
        case round =>
          obtain ⟨j, hj, rfl, hbq⟩ := hrel
          by_cases hlt : j < 2
          · have hlt' : (j : Int) < 2 := by omega
            obtain ⟨hB9, hc2, hrows⟩ := HR.out
            obtain ⟨vj, nj, gj, hcj, hij⟩ := hrows j hlt
            have hij' := hij.keep hbq (Nat.le_refl _)
            obtain ⟨pj, capj, rfl, _, _⟩ := hij
            rw [← hbq.cell (by exact hc2)] at hcj
            have hM := fun w => mod_any a1 100 (by omega) w
            go_wp2_with (go_at_call 12; (with_reducible refine (hM _).mono ?_); rintro e w' ⟨rfl, rfl⟩)
            have h3 := three_ints (w := wr) a0 (modI a1 100) x2
            have hb10 : Below w9.heap.size w9 (wr.alloc (.cells #[.int .i64 a0, .int .i64 (modI a1 100), .int .i64 x2] 3)) := hbq.alloc hbq.size _
            have hsz := hbq.size
            have hij10 := hij'.keep ((Below.refl wr.heap.size wr).alloc (Nat.le_refl _) (.cells #[.int .i64 a0, .int .i64 (modI a1 100), .int .i64 x2] 3)) (Nat.le_refl _)
            have H3 := Lib.hid h3
            have HI := Lib.hid hij10
            clear h3 hij' hij10 hM hbq hcj
            generalize wr.alloc (.cells #[.int .i64 a0, .int .i64 (modI a1 100), .int .i64 x2] 3) = w10 at *
            generalize wr.heap.size = d at *
            go_loopw [193] (fun v wq => ∃ k : Nat, k ≤ 3 ∧ v = .int .i64 k ∧ Below w10.heap.size w10 wq) (fun v _ => 3 - (intOf v).toNat)
            case atStart => exact ⟨0, Nat.zero_le _, rfl, Below.refl _ _⟩
            case round =>
              obtain ⟨k, hk, rfl, hbk⟩ := hrel
              by_cases hkl : k < 3
              · have hkl' : (k : Int) < 3 := by omega
                obtain ⟨hd, h3⟩ := H3.out
                obtain ⟨t, hck⟩ := h3 k hkl
                rw [← hbk.cell (by exact hd)] at hck
                have hP := shares_pair t _ nj gj wr (HI.out.keep hbk (Nat.le_refl _))
                have HP := Lib.hid hP
                have hks := hbk.size
                clear hP h3
                go_wp2_with fail
                refine HP.out.mono ?_
                rintro e w' ⟨pv, ev, rfl, hb1, hR⟩
                have HR1 := Lib.hid (hR w' (Below.refl _ _))
                have hb1' := hbk.trans (hb1.mono hks)
                clear hR HP hb1 hck hbk
                go_wp2_with fail
                refine HR1.out.mono ?_
                rintro e w3 ⟨rv, rfl, hb2, hA⟩
                have HA1 := Lib.hid (hA w3 (Below.refl _ _))
                have hb2' := hb1'.trans (hb2.mono hb1'.size)
                clear hA HR1 hb2 hb1'
                go_wp2_with fail
                refine HA1.out.mono ?_
                rintro e w4 ⟨rfl, q, rfl⟩
                go_wp2_with fail
                go_roundw
                case rel => exact ⟨k + 1, by omega, by go_num, ⟨hb2'.os, hb2'.tape, hb2'.output, hb2'.size, hb2'.block⟩⟩
                case measure => simp [intOf]; omega
              · obtain rfl : k = 3 := by omega
                have hbz := hb10.trans (hbk.mono hb10.size)
                clear H3 HI hbk
                go_wp2_with fail
                go_roundw
                case rel => exact ⟨j + 1, by omega, by go_num, hbz⟩
                case measure => simp [intOf]; omega
          · obtain rfl : j = 2 := by omega
            have hz := HR.out.1.trans (hbq.mono HR.out.1.size)
            clear HR hbq
            go_wp2_with (go_at_call 8; (with_reducible refine (awake_any _).mono ?_); rintro e w2 ⟨rfl, hb3⟩)
            go_ret
            exact ⟨rfl, hz.trans (hb3.mono hz.size)⟩
end Go.Proofs.Ytdiogfjbjdiclaa
