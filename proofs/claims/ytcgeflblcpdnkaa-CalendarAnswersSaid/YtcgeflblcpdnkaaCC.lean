/- The reference's Next and Days: searching day by day. -/
import Derived.Test.YtcgeflblcpdnkaaCB
namespace Go.Proofs.Ytcgeflblcpdnkaa
open Go.RowKit

/-- Outside of a window, its next day is the one on which it begins again. -/
theorem wait_bd {f d : Int} (hf0 : 0 ≤ f) (hf : f < 365) : 0 ≤ waitI f d ∧ waitI f d < 365 := by
  unfold waitI; split <;> omega
theorem wait_hit {f u d : Int} (hf0 : 0 ≤ f) (hf : f < 365) : holdB f u ((d + waitI f d) % 365) = true := by
  have e : (d + waitI f d) % 365 = f := by unfold waitI; split <;> omega
  rw [e, holdB_iff]; omega
theorem wait_miss {f u d k : Int} (hf0 : 0 ≤ f) (hf : f < 365) (hu0 : 0 ≤ u) (hu : u < 365) (hh : holdB f u (d % 365) = false) (hk0 : 0 ≤ k) (hk : k < waitI f d) : holdB f u ((d + k) % 365) = false := by
  rw [holdB_f] at hh ⊢
  unfold waitI at hk
  split at hk <;> omega

/-- How many of the first k places are in a window. -/
def cntI (f u k : Int) : Int := if u < f then min k (u + 1) + max 0 (k - f) else max 0 (min k (u + 1) - f)
theorem cnt_succ {f u k : Int} (hf0 : 0 ≤ f) (hu0 : 0 ≤ u) (hk : 0 ≤ k) : cntI f u (k + 1) = cntI f u k + if holdB f u k then 1 else 0 := by
  by_cases h : holdB f u k = true
  · rw [if_pos h]; rw [holdB_iff] at h; unfold cntI; split <;> omega
  · rw [if_neg h]; rw [Bool.not_eq_true, holdB_f] at h; unfold cntI; split <;> omega
theorem cnt_zero {f u : Int} (hf0 : 0 ≤ f) (hu0 : 0 ≤ u) : cntI f u 0 = 0 := by unfold cntI; split <;> omega
theorem cnt_all {f u : Int} (h : validB f u = true) : cntI f u 365 = daysI f u := by
  have h' := validB_iff.1 h
  unfold cntI daysI; rw [if_pos h]; split <;> omega
/-- The reference counts them place by place. -/
def cntB (f u k : Int) : Int := if validB f u then cntI f u k else 0
theorem cntB_succ {f u k : Int} (hk : 0 ≤ k) (hk2 : k ≤ 364) : cntB f u (k + 1) = cntB f u k + if inB f u k then 1 else 0 := by
  unfold cntB
  by_cases h : validB f u = true
  · have h' := validB_iff.1 h
    have e : inB f u k = holdB f u k := by
      have e1 : k % 365 = k := by omega
      have e2 : dayB k = true := dayB_iff.2 (by omega)
      simp [inB, h, e1, e2]
    rw [if_pos h, if_pos h, cnt_succ h'.1.1 h'.2.1 hk, e]
  · have e : inB f u k = false := by simp [inB, h]
    rw [if_neg h, if_neg h, e]; rfl
theorem cntB_zero (f u : Int) : cntB f u 0 = 0 := by
  unfold cntB; split
  · next h => have h' := validB_iff.1 h; exact cnt_zero h'.1.1 h'.2.1
  · rfl
theorem cntB_all (f u : Int) : cntB f u 365 = daysI f u := by
  unfold cntB; split
  · next h => exact cnt_all h
  · next h => simp [daysI, h]
theorem cntB_bd {f u : Int} (k : Nat) (hk : k ≤ 365) : 0 ≤ cntB f u k ∧ cntB f u k ≤ k := by
  induction k with
  | zero => have := cntB_zero f u; simp only [Int.natCast_zero] at *; omega
  | succ k ih =>
    have h1 := cntB_succ (f := f) (u := u) (k := (k : Int)) (by omega) (by omega)
    have h2 := ih (by omega)
    rw [show ((k + 1 : Nat) : Int) = (k : Int) + 1 by omega]
    split at h1 <;> omega

theorem cntB_bd' {f u k : Int} (h0 : 0 ≤ k) (hk : k ≤ 365) : 0 ≤ cntB f u k ∧ cntB f u k ≤ 365 := by
  obtain ⟨n, rfl⟩ := Int.eq_ofNat_of_zero_le h0
  have := cntB_bd (f := f) (u := u) n (by omega)
  omega

set_option maxHeartbeats 400000 in
theorem refDays_any (f u : Int) (w : World) :
    Calls Try.prog 24 #[.agg #[.int .i64 f, .int .i64 u]] w fun e w' => e = .returned (.int .i64 (daysI f u)) ∧ Below w.heap.size w w' := by
  go_enter Try.func24, Try.ntmps24
  go_wp2
  go_loopw [3, 4] (fun n p wr => ∃ k : Int, 0 ≤ k ∧ k ≤ 365 ∧ p = .int .i64 k ∧ n = .int .i64 (cntB f u k) ∧ Below (w.alloc (.cells #[.int .i64 f, .int .i64 u] 23)).heap.size (w.alloc (.cells #[.int .i64 f, .int .i64 u] 23)) wr) (fun _ p _ => (365 - intOf p).toNat)
  case atStart => exact ⟨0, by omega, by omega, rfl, by rw [cntB_zero], Below.refl _ _⟩
  case round =>
    obtain ⟨k, hk0, hk, rfl, rfl, hb⟩ := hrel
    obtain ⟨hc, hf⟩ := bcell hb
    have hzz : w.heap.size < wr.heap.size := size_new hb
    by_cases hlt : k < 365
    · obtain ⟨hbd0, hbd1⟩ := cntB_bd' (f := f) (u := u) hk0 hk
      by_cases hi : inB f u k = true
      · have E1 := Lib.hid (show cntB f u (k + 1) = cntB f u k + 1 by rw [cntB_succ hk0 (by omega), if_pos hi])
        go_wp2_with (go_at_call 22; (with_reducible refine (refIn_any _ _ _ _).mono ?_); rintro e w2 ⟨rfl, hb2⟩)
        go_roundw
        case rel => exact ⟨k + 1, by omega, by omega, rfl, by rw [E1.out], hb.trans (hb2.mono hb.size)⟩
        case measure => simp [intOf]; omega
      · have hi' : inB f u k = false := by simpa using hi
        have E1 := Lib.hid (show cntB f u (k + 1) = cntB f u k by rw [cntB_succ hk0 (by omega), if_neg hi, Int.add_zero])
        clear hi
        go_wp2_with (go_at_call 22; (with_reducible refine (refIn_any _ _ _ _).mono ?_); rintro e w2 ⟨rfl, hb2⟩)
        go_roundw
        case rel => exact ⟨k + 1, by omega, by omega, rfl, by rw [E1.out], hb.trans (hb2.mono hb.size)⟩
        case measure => simp [intOf]; omega
    · obtain rfl : k = 365 := by omega
      go_wp2
      go_ret
      exact ⟨ret_int (cntB_all f u), below_new hb⟩

theorem inB_of {f u d : Int} (hv : validB f u = true) (h0 : 0 ≤ d) (h1 : d ≤ 36864) : inB f u d = holdB f u (d % 365) := by
  simp [inB, hv, dayB_iff.2 ⟨h0, h1⟩]

def Missed (f u d k : Int) : Prop := ∀ j, 0 ≤ j → j < k → holdB f u ((d + j) % 365) = false
theorem next_hit {f u d k : Int} (hv : validB f u = true) (hd : dayB d = true) (hk : 0 ≤ k) (hk2 : d + k ≤ 36864) (hh : holdB f u ((d + k) % 365) = true) (hm : Missed f u d k) : nextI f u d = (d + k, true) := by
  have hv' := validB_iff.1 hv
  by_cases h0 : k = 0
  · subst h0
    rw [Int.add_zero] at *
    simp [nextI, hv, hd, hh]
  · have h1 := hm 0 (by omega) (by omega)
    rw [Int.add_zero] at h1
    have h2 : ¬ k < waitI f d := fun h => by
      have := wait_miss hv'.1.1 hv'.1.2 hv'.2.1 hv'.2.2 h1 hk h
      rw [this] at hh; cases hh
    have h3 : ¬ waitI f d < k := fun h => by
      have := hm _ (wait_bd hv'.1.1 hv'.1.2).1 h
      rw [wait_hit hv'.1.1 hv'.1.2] at this; cases this
    have h4 : waitI f d = k := by omega
    have h5 : ¬ 36864 < d + k := by omega
    simp [nextI, hv, hd, h1, h4, h5]
theorem next_miss {f u d k : Int} (hv : validB f u = true) (hd : dayB d = true) (hk : 36864 < d + k ∨ 365 < k) (hm : Missed f u d k) : nextI f u d = (0, false) := by
  have hv' := validB_iff.1 hv
  have hd' := dayB_iff.1 hd
  have hw := wait_bd (d := d) hv'.1.1 hv'.1.2
  have h1 := hm 0 (by omega) (by omega)
  rw [Int.add_zero] at h1
  have h3 : ¬ waitI f d < k := fun h => by
    have := hm _ hw.1 h
    rw [wait_hit hv'.1.1 hv'.1.2] at this; cases this
  have h5 : 36864 < d + waitI f d := by omega
  simp [nextI, hv, hd, h1, h5]
theorem missed_succ {f u d k : Int} (h : holdB f u ((d + k) % 365) = false) (hm : Missed f u d k) : Missed f u d (k + 1) := fun j h0 h1 => by
  by_cases e : j = k
  · rw [e]; exact h
  · exact hm j h0 (by omega)

set_option maxHeartbeats 400000 in
theorem refNext_any (f u d : Int) (w : World) :
    Calls Try.prog 20 #[.agg #[.int .i64 f, .int .i64 u], .int .i64 d] w fun e w' => e = .returned (.tuple #[.int .i64 (nextI f u d).1, .bool (nextI f u d).2]) ∧ Below w.heap.size w w' := by
  by_cases hv : validB f u = true
  · have hv' := validB_iff.1 hv
    by_cases hd : dayB d = true
    · have hd' := dayB_iff.1 hd
      go_enter Try.func20, Try.ntmps20
      go_wp2_with (first
        | (go_at_call 33; (with_reducible refine (refValid_any _ _ _).mono ?_); rintro e w1 ⟨rfl, hb⟩; obtain ⟨hc, hf⟩ := bcell hb; have hz : w.heap.size < w1.heap.size := size_new hb)
        | (go_at_call 27; (with_reducible refine (refIs_any _ _).mono ?_); rintro e w' ⟨rfl, rfl⟩))
      go_loopw [6] (fun p wr => ∃ k : Int, 0 ≤ k ∧ k ≤ 366 ∧ d + k ≤ 36865 ∧ p = .int .i64 (d + k) ∧ Missed f u d k ∧ Below (w.alloc (.cells #[.int .i64 f, .int .i64 u] 23)).heap.size (w.alloc (.cells #[.int .i64 f, .int .i64 u] 23)) wr) (fun p _ => (d + 366 - intOf p).toNat)
      case atStart => exact ⟨0, by omega, by omega, by omega, by rw [Int.add_zero], fun j h0 h1 => by omega, hb⟩
      case round =>
        obtain ⟨k, hk0, hk, hk2, rfl, hm, hbr⟩ := hrel
        have HM := Lib.hid hm
        clear hm hc hf hz hb
        obtain ⟨hc, hf⟩ := bcell hbr
        have hzz : w.heap.size < wr.heap.size := size_new hbr
        by_cases hl1 : d + k ≤ 36864
        · by_cases hl2 : k ≤ 365
          · by_cases hi : holdB f u ((d + k) % 365) = true
            · have ei : inB f u (d + k) = true := by rw [inB_of hv (by omega) hl1]; exact hi
              have EN := Lib.hid (next_hit hv hd hk0 hl1 hi HM.out)
              clear hi
              have hl3 : d + k ≤ d + 365 := by omega
              go_wp2_with (go_at_call 22; (with_reducible refine (refIn_any _ _ _ _).mono ?_); rintro e w2 ⟨rfl, hb2⟩)
              go_ret2
              exact ⟨by rw [EN.out]; rfl, below_new (hbr.trans (hb2.mono hbr.size))⟩
            · have hi' : holdB f u ((d + k) % 365) = false := by simpa using hi
              have ei : inB f u (d + k) = false := by rw [inB_of hv (by omega) hl1]; exact hi'
              have hl3 : d + k ≤ d + 365 := by omega
              have HM1 := Lib.hid (missed_succ hi' HM.out)
              clear hi hi'
              go_wp2_with (go_at_call 22; (with_reducible refine (refIn_any _ _ _ _).mono ?_); rintro e w2 ⟨rfl, hb2⟩)
              go_roundw
              case rel => exact ⟨k + 1, by omega, by omega, by omega, by rw [Int.add_assoc], HM1.out, hbr.trans (hb2.mono hbr.size)⟩
              case measure => simp [intOf]; omega
          · have hl3 : ¬ d + k ≤ d + 365 := by omega
            have EN := Lib.hid (next_miss hv hd (k := k) (by omega) HM.out)
            go_wp2
            go_ret2
            exact ⟨by rw [EN.out]; rfl, below_new hbr⟩
        · have EN := Lib.hid (next_miss hv hd (k := k) (by omega) HM.out)
          go_wp2
          go_ret2
          exact ⟨by rw [EN.out]; rfl, below_new hbr⟩
    · have hd' : dayB d = false := by simpa using hd
      have e : nextI f u d = (0, false) := by simp [nextI, hd']
      rw [e]
      clear e hd
      go_enter Try.func20, Try.ntmps20
      go_wp2_with (first
        | (go_at_call 33; (with_reducible refine (refValid_any _ _ _).mono ?_); rintro e w1 ⟨rfl, hb⟩; obtain ⟨hc, hf⟩ := bcell hb; have hz : w.heap.size < w1.heap.size := size_new hb)
        | (go_at_call 27; (with_reducible refine (refIs_any _ _).mono ?_); rintro e w' ⟨rfl, rfl⟩))
      go_ret2
      exact ⟨rfl, below_new hb⟩
  · have hv' : validB f u = false := by simpa using hv
    have e : nextI f u d = (0, false) := by simp [nextI, hv']
    rw [e]
    clear e hv
    go_enter Try.func20, Try.ntmps20
    go_wp2_with (first
      | (go_at_call 33; (with_reducible refine (refValid_any _ _ _).mono ?_); rintro e w1 ⟨rfl, hb⟩; obtain ⟨hc, hf⟩ := bcell hb))
    go_ret2
    exact ⟨rfl, below_new hb⟩
end Go.Proofs.Ytcgeflblcpdnkaa
