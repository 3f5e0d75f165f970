/- CalendarWindows. -/
import Derived.Test.YtcgeflblcpdnkaaCE3
import Derived.Deep.RegionHeld3
namespace Go.Proofs.Ytcgeflblcpdnkaa
open Go.RowKit

theorem win_all {a b d : Int} (hv : validB a b = true) (h : daysI a b = 365) (h0 : 0 ≤ d) (h1 : d ≤ 36864) : inB a b d = true := by
  have hv' := validB_iff.1 hv
  rw [inB_of hv h0 h1, holdB_iff]
  simp only [daysI, hv, if_true] at h
  split at h <;> omega
theorem win_rest {a b r s d : Int} (hv : validB a b = true) (hr : r = (b + 1) % 365) (hs : s = (a + 364) % 365) (h : daysI a b ≠ 365) (h0 : 0 ≤ d) (h1 : d ≤ 36864) :
    inB r s d = !inB a b d ∧ daysI a b + daysI r s = 365 := by
  have hv' := validB_iff.1 hv
  have hv2 : validB r s = true := validB_iff.2 (by omega)
  constructor
  · rw [inB_of hv h0 h1, inB_of hv2 h0 h1, Bool.eq_iff_iff, holdB_iff]
    simp only [daysI, hv, if_true] at h
    simp only [Bool.not_eq_true', holdB_f]
    split at h <;> omega
  · simp only [daysI, hv, hv2, if_true] at *
    split at h <;> split <;> omega
theorem win_next {a b d : Int} (hv : validB a b = true) (h0 : 0 ≤ d) (h1 : d ≤ 36864) :
    ((nextI a b d).2 = true → d ≤ (nextI a b d).1 ∧ (nextI a b d).1 ≤ 36864 ∧ inB a b (nextI a b d).1 = true) ∧ (inB a b d = true ↔ (nextI a b d).2 = true ∧ (nextI a b d).1 = d) := by
  have hv' := validB_iff.1 hv
  have hd : dayB d = true := dayB_iff.2 ⟨h0, h1⟩
  have hb := wait_bd (d := d) hv'.1.1 hv'.1.2
  by_cases hh : holdB a b (d % 365) = true
  · have e : nextI a b d = (d, true) := by simp [nextI, hv, hd, hh]
    rw [e, inB_of hv h0 h1]
    simp [h1, hh]
  · have hh' : holdB a b (d % 365) = false := by simpa using hh
    by_cases h2 : 36864 < d + waitI a d
    · have e : nextI a b d = (0, false) := by simp [nextI, hv, hd, hh', h2]
      rw [e, inB_of hv h0 h1]
      simp [hh']
    · have e : nextI a b d = (d + waitI a d, true) := by simp [nextI, hv, hd, hh', h2]
      rw [e, inB_of hv h0 h1]
      refine ⟨fun _ => ⟨by simp; omega, by simp; omega, ?_⟩, ?_⟩
      · simp only
        rw [inB_of hv (by omega) (by omega)]
        exact wait_hit hv'.1.1 hv'.1.2
      · simp only [hh', true_and]
        constructor
        · intro h; cases h
        · intro h
          have h3 : waitI a d = 0 := by omega
          have h4 := wait_hit (f := a) (u := b) (d := d) hv'.1.1 hv'.1.2
          rw [h3, Int.add_zero, hh'] at h4
          cases h4

theorem days_bd (a b : Int) : -1000 ≤ daysI a b ∧ daysI a b ≤ 1000 := by
  unfold daysI
  split
  · next h =>
    have := validB_iff.1 h
    split <;> omega
  · omega
set_option maxHeartbeats 4000000 in
theorem windows_any (f u x : Int) (hf0 : 0 ≤ f) (hf1 : f ≤ 65535) (hu0 : 0 ≤ u) (hu1 : u ≤ 65535) (hx0 : 0 ≤ x) (hx1 : x ≤ 65535) (w : World) :
    Calls Try.prog 5 #[.int .u16 f, .int .u16 u, .int .u16 x] w fun e w' => e = .returned (.bool true) ∧ Below w.heap.size w w' := by
  have hv : validB (f % 365) (u % 365) = true := validB_iff.2 (by omega)
  have hd0 : 0 ≤ x % 36864 := by omega
  have hd1 : x % 36864 ≤ 36864 := by omega
  have D1 := fun w => calDays_any (f % 365) (u % 365) w
  have I1 := fun w => calIn_any (f % 365) (u % 365) (x % 36864) w
  by_cases hD : daysI (f % 365) (u % 365) = 365
  · rw [hD] at D1
    rw [win_all hv hD hd0 hd1] at I1
    clear hD hv
    go_enter Try.func5, Try.ntmps5
    go_wp2_with (first
      | (go_at_call 23; ((with_reducible refine (D1 _).mono ?_); rintro e w1 ⟨rfl, hb1⟩; obtain ⟨hc1, hf1⟩ := bcell hb1; have hz1 := size_two hb1; have hy1 := Nat.lt_of_succ_lt hz1))
      | (go_at_call 21; ((with_reducible refine (I1 _).mono ?_); rintro e w3 ⟨rfl, hb3⟩))
      | (go_at_call 7; (with_reducible refine (awake_any _).mono ?_); rintro e w9 ⟨rfl, hb9⟩))
    go_ret
    exact ⟨ret_bool (by simp), below_step (below_step (below_two hb1) hb3) hb9⟩
  · have hR := win_rest (r := (u + 1) % 365) (s := (f % 365 + 365 - 1) % 365) hv (by omega) (by omega) hD hd0 hd1
    have hN := win_next hv hd0 hd1
    have D2 := fun w => calDays_any ((u + 1) % 365) ((f % 365 + 365 - 1) % 365) w
    have I2 := fun w => calIn_any ((u + 1) % 365) ((f % 365 + 365 - 1) % 365) (x % 36864) w
    have I3 := fun w => calIn_any (f % 365) (u % 365) (nextI (f % 365) (u % 365) (x % 36864)).1 w
    have N := fun w => calNext_any (f % 365) (u % 365) (x % 36864) w
    have e2 := hR.2
    have hDb : -1000 ≤ daysI (f % 365) (u % 365) ∧ daysI (f % 365) (u % 365) ≤ 1000 := days_bd _ _
    rw [hR.1] at I2
    clear hR
    generalize daysI (f % 365) (u % 365) = DD at *
    have e3 : daysI ((u + 1) % 365) ((f % 365 + 365 - 1) % 365) = 365 - DD := by omega
    rw [e3] at D2
    clear e2 e3
    obtain ⟨hDb1, hDb2⟩ := hDb
    have hD' : (DD == 365) = false := beq_eq_false_iff_ne.2 hD
    clear hD
    obtain ⟨hN1, hN2⟩ := hN
    generalize inB (f % 365) (u % 365) (x % 36864) = i1 at *
    by_cases hok : (nextI (f % 365) (u % 365) (x % 36864)).2 = true
    · have h3 := hN1 hok
      rw [h3.2.2] at I3
      rw [hok] at N
      obtain ⟨hn1, hn2, _⟩ := h3
      simp only [hok, true_and] at hN2
      clear hN1 hok hv
      generalize (nextI (f % 365) (u % 365) (x % 36864)).1 = nn at *
      by_cases hn : nn = x % 36864
      · obtain rfl : i1 = true := hN2.2 hn
        have hn' : (nn == x % 36864) = true := by rw [hn]; simp
        clear hN2 hn
        rw [Bool.not_true] at I2
        go_enter Try.func5, Try.ntmps5
        go_wp2_with (first
          | (go_at_call 23; ((with_reducible refine (D1 _).mono ?_); rintro e w1 ⟨rfl, hb1⟩; obtain ⟨hc1, hf1⟩ := bcell hb1; have hz1 := size_two hb1; have hy1 := Nat.lt_of_succ_lt hz1))
          | (go_at_call 19; (with_reducible refine (N _).mono ?_); rintro e w2 ⟨rfl, hb2⟩))
        have k0 : w2.cell? ⟨w.heap.size, 0, none⟩ = some (.int .i64 (f % 365)) := cell_keep hb2 (by rw [hc1 _ _ (by simp; omega)]; simp)
        have k1 : w2.cell? ⟨w.heap.size, 1, none⟩ = some (.int .i64 (u % 365)) := cell_keep hb2 (by rw [hc1 _ _ (by simp; omega)]; simp)
        have k2 : w2.cell? ⟨w.heap.size + 1, 0, none⟩ = some (.int .i64 ((u + 1) % 365)) := cell_keep hb2 (by rw [hc1 _ _ (by simp)]; simp)
        have k3 : w2.cell? ⟨w.heap.size + 1, 1, none⟩ = some (.int .i64 ((f % 365 + 365 - 1) % 365)) := cell_keep hb2 (by rw [hc1 _ _ (by simp)]; simp)
        have kb : Below w.heap.size w w2 := below_step (below_two hb1) hb2
        clear hb1 hb2 hc1 hf1 hz1 hy1
        have hsum : IntKind.i64.wrap (DD + (365 - DD)) = 365 := by rw [show DD + (365 - DD) = 365 by omega]; decide
        have hle : decide (x % 36864 ≤ nn) = true := by simpa using hn1
        go_region_held3 (fun w' => w'.cell? ⟨w.heap.size, 0, none⟩ = some (.int .i64 (f % 365)) ∧ w'.cell? ⟨w.heap.size, 1, none⟩ = some (.int .i64 (u % 365)) ∧ w'.cell? ⟨w.heap.size + 1, 0, none⟩ = some (.int .i64 ((u + 1) % 365)) ∧ w'.cell? ⟨w.heap.size + 1, 1, none⟩ = some (.int .i64 ((f % 365 + 365 - 1) % 365)) ∧ Below w.heap.size w w') ((refine ⟨?_, ?_, ?_, ?_, ?_⟩ <;> (first | assumption | exact Below.drew (by assumption)))) (first
          | (go_at_call 21; (with_reducible refine (I1 _).mono ?_); rintro e w' ⟨rfl, hb⟩; have k0 : w'.cell? ⟨w.heap.size, 0, none⟩ = some (.int .i64 (f % 365)) := cell_keep hb (by assumption); have k1 : w'.cell? ⟨w.heap.size, 1, none⟩ = some (.int .i64 (u % 365)) := cell_keep hb (by assumption); have k2 : w'.cell? ⟨w.heap.size + 1, 0, none⟩ = some (.int .i64 ((u + 1) % 365)) := cell_keep hb (by assumption); have k3 : w'.cell? ⟨w.heap.size + 1, 1, none⟩ = some (.int .i64 ((f % 365 + 365 - 1) % 365)) := cell_keep hb (by assumption); have kb : Below w.heap.size w w' := below_step (by first | assumption | exact Below.drew (by assumption)) hb; clear hb)
          | (go_at_call 21; (with_reducible refine (I2 _).mono ?_); rintro e w' ⟨rfl, hb⟩; have k0 : w'.cell? ⟨w.heap.size, 0, none⟩ = some (.int .i64 (f % 365)) := cell_keep hb (by assumption); have k1 : w'.cell? ⟨w.heap.size, 1, none⟩ = some (.int .i64 (u % 365)) := cell_keep hb (by assumption); have k2 : w'.cell? ⟨w.heap.size + 1, 0, none⟩ = some (.int .i64 ((u + 1) % 365)) := cell_keep hb (by assumption); have k3 : w'.cell? ⟨w.heap.size + 1, 1, none⟩ = some (.int .i64 ((f % 365 + 365 - 1) % 365)) := cell_keep hb (by assumption); have kb : Below w.heap.size w w' := below_step (by first | assumption | exact Below.drew (by assumption)) hb; clear hb)
          | (go_at_call 21; (with_reducible refine (I3 _).mono ?_); rintro e w' ⟨rfl, hb⟩; have k0 : w'.cell? ⟨w.heap.size, 0, none⟩ = some (.int .i64 (f % 365)) := cell_keep hb (by assumption); have k1 : w'.cell? ⟨w.heap.size, 1, none⟩ = some (.int .i64 (u % 365)) := cell_keep hb (by assumption); have k2 : w'.cell? ⟨w.heap.size + 1, 0, none⟩ = some (.int .i64 ((u + 1) % 365)) := cell_keep hb (by assumption); have k3 : w'.cell? ⟨w.heap.size + 1, 1, none⟩ = some (.int .i64 ((f % 365 + 365 - 1) % 365)) := cell_keep hb (by assumption); have kb : Below w.heap.size w w' := below_step (by first | assumption | exact Below.drew (by assumption)) hb; clear hb)
          | (go_at_call 23; (with_reducible refine (D1 _).mono ?_); rintro e w' ⟨rfl, hb⟩; have k0 : w'.cell? ⟨w.heap.size, 0, none⟩ = some (.int .i64 (f % 365)) := cell_keep hb (by assumption); have k1 : w'.cell? ⟨w.heap.size, 1, none⟩ = some (.int .i64 (u % 365)) := cell_keep hb (by assumption); have k2 : w'.cell? ⟨w.heap.size + 1, 0, none⟩ = some (.int .i64 ((u + 1) % 365)) := cell_keep hb (by assumption); have k3 : w'.cell? ⟨w.heap.size + 1, 1, none⟩ = some (.int .i64 ((f % 365 + 365 - 1) % 365)) := cell_keep hb (by assumption); have kb : Below w.heap.size w w' := below_step (by first | assumption | exact Below.drew (by assumption)) hb; clear hb)
          | (go_at_call 23; (with_reducible refine (D2 _).mono ?_); rintro e w' ⟨rfl, hb⟩; have k0 : w'.cell? ⟨w.heap.size, 0, none⟩ = some (.int .i64 (f % 365)) := cell_keep hb (by assumption); have k1 : w'.cell? ⟨w.heap.size, 1, none⟩ = some (.int .i64 (u % 365)) := cell_keep hb (by assumption); have k2 : w'.cell? ⟨w.heap.size + 1, 0, none⟩ = some (.int .i64 ((u + 1) % 365)) := cell_keep hb (by assumption); have k3 : w'.cell? ⟨w.heap.size + 1, 1, none⟩ = some (.int .i64 ((f % 365 + 365 - 1) % 365)) := cell_keep hb (by assumption); have kb : Below w.heap.size w w' := below_step (by first | assumption | exact Below.drew (by assumption)) hb; clear hb)
          | (go_at_call 7; (with_reducible refine (awake_any _).mono ?_); rintro e w' ⟨rfl, hb⟩; have k0 : w'.cell? ⟨w.heap.size, 0, none⟩ = some (.int .i64 (f % 365)) := cell_keep hb (by assumption); have k1 : w'.cell? ⟨w.heap.size, 1, none⟩ = some (.int .i64 (u % 365)) := cell_keep hb (by assumption); have k2 : w'.cell? ⟨w.heap.size + 1, 0, none⟩ = some (.int .i64 ((u + 1) % 365)) := cell_keep hb (by assumption); have k3 : w'.cell? ⟨w.heap.size + 1, 1, none⟩ = some (.int .i64 ((f % 365 + 365 - 1) % 365)) := cell_keep hb (by assumption); have kb : Below w.heap.size w w' := below_step (by first | assumption | exact Below.drew (by assumption)) hb; clear hb))
        go_wp2
        go_ret
        exact ⟨rfl, by assumption⟩
      · obtain rfl : i1 = false := by
          cases i1
          · rfl
          · exact absurd (hN2.1 rfl) hn
        have hn' : (nn == x % 36864) = false := beq_eq_false_iff_ne.2 hn
        clear hN2 hn
        rw [Bool.not_false] at I2
        go_enter Try.func5, Try.ntmps5
        go_wp2_with (first
          | (go_at_call 23; ((with_reducible refine (D1 _).mono ?_); rintro e w1 ⟨rfl, hb1⟩; obtain ⟨hc1, hf1⟩ := bcell hb1; have hz1 := size_two hb1; have hy1 := Nat.lt_of_succ_lt hz1))
          | (go_at_call 19; (with_reducible refine (N _).mono ?_); rintro e w2 ⟨rfl, hb2⟩))
        have k0 : w2.cell? ⟨w.heap.size, 0, none⟩ = some (.int .i64 (f % 365)) := cell_keep hb2 (by rw [hc1 _ _ (by simp; omega)]; simp)
        have k1 : w2.cell? ⟨w.heap.size, 1, none⟩ = some (.int .i64 (u % 365)) := cell_keep hb2 (by rw [hc1 _ _ (by simp; omega)]; simp)
        have k2 : w2.cell? ⟨w.heap.size + 1, 0, none⟩ = some (.int .i64 ((u + 1) % 365)) := cell_keep hb2 (by rw [hc1 _ _ (by simp)]; simp)
        have k3 : w2.cell? ⟨w.heap.size + 1, 1, none⟩ = some (.int .i64 ((f % 365 + 365 - 1) % 365)) := cell_keep hb2 (by rw [hc1 _ _ (by simp)]; simp)
        have kb : Below w.heap.size w w2 := below_step (below_two hb1) hb2
        clear hb1 hb2 hc1 hf1 hz1 hy1
        have hsum : IntKind.i64.wrap (DD + (365 - DD)) = 365 := by rw [show DD + (365 - DD) = 365 by omega]; decide
        have hle : decide (x % 36864 ≤ nn) = true := by simpa using hn1
        go_region_held3 (fun w' => w'.cell? ⟨w.heap.size, 0, none⟩ = some (.int .i64 (f % 365)) ∧ w'.cell? ⟨w.heap.size, 1, none⟩ = some (.int .i64 (u % 365)) ∧ w'.cell? ⟨w.heap.size + 1, 0, none⟩ = some (.int .i64 ((u + 1) % 365)) ∧ w'.cell? ⟨w.heap.size + 1, 1, none⟩ = some (.int .i64 ((f % 365 + 365 - 1) % 365)) ∧ Below w.heap.size w w') ((refine ⟨?_, ?_, ?_, ?_, ?_⟩ <;> (first | assumption | exact Below.drew (by assumption)))) (first
          | (go_at_call 21; (with_reducible refine (I1 _).mono ?_); rintro e w' ⟨rfl, hb⟩; have k0 : w'.cell? ⟨w.heap.size, 0, none⟩ = some (.int .i64 (f % 365)) := cell_keep hb (by assumption); have k1 : w'.cell? ⟨w.heap.size, 1, none⟩ = some (.int .i64 (u % 365)) := cell_keep hb (by assumption); have k2 : w'.cell? ⟨w.heap.size + 1, 0, none⟩ = some (.int .i64 ((u + 1) % 365)) := cell_keep hb (by assumption); have k3 : w'.cell? ⟨w.heap.size + 1, 1, none⟩ = some (.int .i64 ((f % 365 + 365 - 1) % 365)) := cell_keep hb (by assumption); have kb : Below w.heap.size w w' := below_step (by first | assumption | exact Below.drew (by assumption)) hb; clear hb)
          | (go_at_call 21; (with_reducible refine (I2 _).mono ?_); rintro e w' ⟨rfl, hb⟩; have k0 : w'.cell? ⟨w.heap.size, 0, none⟩ = some (.int .i64 (f % 365)) := cell_keep hb (by assumption); have k1 : w'.cell? ⟨w.heap.size, 1, none⟩ = some (.int .i64 (u % 365)) := cell_keep hb (by assumption); have k2 : w'.cell? ⟨w.heap.size + 1, 0, none⟩ = some (.int .i64 ((u + 1) % 365)) := cell_keep hb (by assumption); have k3 : w'.cell? ⟨w.heap.size + 1, 1, none⟩ = some (.int .i64 ((f % 365 + 365 - 1) % 365)) := cell_keep hb (by assumption); have kb : Below w.heap.size w w' := below_step (by first | assumption | exact Below.drew (by assumption)) hb; clear hb)
          | (go_at_call 21; (with_reducible refine (I3 _).mono ?_); rintro e w' ⟨rfl, hb⟩; have k0 : w'.cell? ⟨w.heap.size, 0, none⟩ = some (.int .i64 (f % 365)) := cell_keep hb (by assumption); have k1 : w'.cell? ⟨w.heap.size, 1, none⟩ = some (.int .i64 (u % 365)) := cell_keep hb (by assumption); have k2 : w'.cell? ⟨w.heap.size + 1, 0, none⟩ = some (.int .i64 ((u + 1) % 365)) := cell_keep hb (by assumption); have k3 : w'.cell? ⟨w.heap.size + 1, 1, none⟩ = some (.int .i64 ((f % 365 + 365 - 1) % 365)) := cell_keep hb (by assumption); have kb : Below w.heap.size w w' := below_step (by first | assumption | exact Below.drew (by assumption)) hb; clear hb)
          | (go_at_call 23; (with_reducible refine (D1 _).mono ?_); rintro e w' ⟨rfl, hb⟩; have k0 : w'.cell? ⟨w.heap.size, 0, none⟩ = some (.int .i64 (f % 365)) := cell_keep hb (by assumption); have k1 : w'.cell? ⟨w.heap.size, 1, none⟩ = some (.int .i64 (u % 365)) := cell_keep hb (by assumption); have k2 : w'.cell? ⟨w.heap.size + 1, 0, none⟩ = some (.int .i64 ((u + 1) % 365)) := cell_keep hb (by assumption); have k3 : w'.cell? ⟨w.heap.size + 1, 1, none⟩ = some (.int .i64 ((f % 365 + 365 - 1) % 365)) := cell_keep hb (by assumption); have kb : Below w.heap.size w w' := below_step (by first | assumption | exact Below.drew (by assumption)) hb; clear hb)
          | (go_at_call 23; (with_reducible refine (D2 _).mono ?_); rintro e w' ⟨rfl, hb⟩; have k0 : w'.cell? ⟨w.heap.size, 0, none⟩ = some (.int .i64 (f % 365)) := cell_keep hb (by assumption); have k1 : w'.cell? ⟨w.heap.size, 1, none⟩ = some (.int .i64 (u % 365)) := cell_keep hb (by assumption); have k2 : w'.cell? ⟨w.heap.size + 1, 0, none⟩ = some (.int .i64 ((u + 1) % 365)) := cell_keep hb (by assumption); have k3 : w'.cell? ⟨w.heap.size + 1, 1, none⟩ = some (.int .i64 ((f % 365 + 365 - 1) % 365)) := cell_keep hb (by assumption); have kb : Below w.heap.size w w' := below_step (by first | assumption | exact Below.drew (by assumption)) hb; clear hb)
          | (go_at_call 7; (with_reducible refine (awake_any _).mono ?_); rintro e w' ⟨rfl, hb⟩; have k0 : w'.cell? ⟨w.heap.size, 0, none⟩ = some (.int .i64 (f % 365)) := cell_keep hb (by assumption); have k1 : w'.cell? ⟨w.heap.size, 1, none⟩ = some (.int .i64 (u % 365)) := cell_keep hb (by assumption); have k2 : w'.cell? ⟨w.heap.size + 1, 0, none⟩ = some (.int .i64 ((u + 1) % 365)) := cell_keep hb (by assumption); have k3 : w'.cell? ⟨w.heap.size + 1, 1, none⟩ = some (.int .i64 ((f % 365 + 365 - 1) % 365)) := cell_keep hb (by assumption); have kb : Below w.heap.size w w' := below_step (by first | assumption | exact Below.drew (by assumption)) hb; clear hb))
        go_wp2
        go_ret
        exact ⟨rfl, by assumption⟩
    · have hok' : (nextI (f % 365) (u % 365) (x % 36864)).2 = false := by simpa using hok
      rw [hok'] at N hN2
      obtain rfl : i1 = false := by
        cases i1
        · rfl
        · exact absurd (hN2.1 rfl).1 (by simp)
      rw [Bool.not_false] at I2
      exact windows_c3 f u x DD hf0 hf1 hu0 hu1 hx0 hx1 hDb1 hDb2 hD' w D1 D2 I1 I2 _ N

theorem windows_walk (a0 : Int) (w0 : (Lit.int .u16 a0).wf = true) (a1 : Int) (w1 : (Lit.int .u16 a1).wf = true) (a2 : Int) (w2 : (Lit.int .u16 a2).wf = true) (W : World) :
    Calls Try.prog 5 #[.int .u16 a0, .int .u16 a1, .int .u16 a2] W fun e w' => e = .returned (.bool true) ∧ Below W.heap.size W w' :=
  windows_any a0 a1 a2 (wf_u16 w0).1 (wf_u16 w0).2 (wf_u16 w1).1 (wf_u16 w1).2 (wf_u16 w2).1 (wf_u16 w2).2 W
end Go.Proofs.Ytcgeflblcpdnkaa
