/- The reference's working days. -/
import Derived.Test.YtcgeflblcpdnkaaCW
namespace Go.Proofs.Ytcgeflblcpdnkaa
open Go.RowKit

theorem below_self {B : Nat} {w w' : World} (h : ∃ q, w' = w.drewN q) : Below B w w' := by
  obtain ⟨q, rfl⟩ := h
  exact below_drewN (Below.refl _ _) q

/-- The first j numbers of a list do not have x. -/
def NotIn (g : Nat → Int) (x : Int) (j : Nat) : Prop := ∀ i, i < j → g i ≠ x
theorem has_none {n : Nat} {g : Nat → Int} {x : Int} (h : NotIn g x n) : hasB n g x = false := by
  rw [← Bool.not_eq_true, hasB_iff]
  rintro ⟨j, hj, e⟩
  exact h j hj e

set_option maxHeartbeats 400000 in
theorem refHas_any (v : Value) (n : Nat) (g : Nat → Int) (x : Int) (w : World) (hI : IntsAt .i64 w v n g) :
    Calls Try.prog 31 #[v, .int .i64 x] w fun e w' => e = .returned (.bool (hasB n g x)) ∧ ∃ q, w' = w.drewN q := by
  obtain ⟨p, cap, rfl, hm, hI⟩ := hI
  unfold maxLen at hm
  have HI := Lib.hid hI
  clear hI
  go_enter Try.func31, Try.ntmps31
  go_wp2
  go_loopw [9] (fun i wr => ∃ k q : Nat, k ≤ n ∧ i = .int .i64 k ∧ NotIn g x k ∧ wr = w.drewN q) (fun i _ => n - (intOf i).toNat)
  case atStart => exact ⟨0, 0, Nat.zero_le _, rfl, fun i hi => by omega, rfl⟩
  case round =>
    obtain ⟨k, q, hk, rfl, hn, rfl⟩ := hrel
    have HN := Lib.hid hn
    clear hn
    by_cases hlt : k < n
    · obtain ⟨_, b, off, rfl, hb, hc⟩ := HI.out k hlt
      have hc2 : (w.drewN q).cell? ⟨b, off + k, none⟩ = some (.int .i64 (g k)) := hc
      have b0 : (0 : Int) ≤ (k : Int) := by omega
      have b1 : (k : Int) < (n : Int) := by omega
      by_cases he : g k = x
      · have HE := Lib.hid (show hasB n g x = true from hasB_iff.2 ⟨k, hlt, he⟩)
        have he' : (g k == x) = true := by simp [he]
        clear he hc
        generalize hw1 : w.drewN q = w1 at *
        have HW1 := Lib.hid hw1
        clear hw1
        go_wp2
        go_ret
        exact ⟨ret_bool (by rw [HE.out]), _, HW1.out.symm⟩
      · have HN1 := Lib.hid (show NotIn g x (k + 1) from fun i hi => by
          by_cases e : i = k
          · rw [e]; exact he
          · exact HN.out i (by omega))
        have he' : (g k == x) = false := beq_eq_false_iff_ne.2 he
        clear he hc
        generalize hw1 : w.drewN q = w1 at *
        have HW1 := Lib.hid hw1
        clear hw1
        go_wp2
        go_roundw
        case rel => exact ⟨k + 1, q, by omega, by go_num, HN1.out, HW1.out.symm⟩
        case measure => simp [intOf]; omega
    · obtain rfl : k = n := by omega
      go_wp2
      go_ret
      exact ⟨ret_bool (by rw [has_none HN.out]), _, rfl⟩

set_option maxHeartbeats 400000 in
theorem refWorking_any (a b : Int) (v : Value) (n : Nat) (g : Nat → Int) (w : World) (hI : IntsAt .i64 w v n g) :
    Calls Try.prog 18 #[.int .i64 a, .int .i64 b, v] w fun e w' => e = .returned (.tuple #[.int .i64 (workI a b n g).1, .int .i64 (workI a b n g).2]) ∧ ∃ q, w' = w.drewN q := by
  by_cases h : 0 ≤ a ∧ a ≤ b ∧ b ≤ 36865
  · obtain ⟨h1, h2, h3⟩ := h
    by_cases hn : 400 < n
    · have e : workI a b n g = (0, 1) := by simp [workI, h1, h2, h3, hn]
      obtain ⟨p, cap, rfl, hm, hI⟩ := hI
      rw [e]
      unfold maxLen at hm
      have hn' : (400 : Int) < (n : Int) := by omega
      clear e hI
      go_enter Try.func18, Try.ntmps18
      go_wp2
      go_ret2
      exact ⟨rfl, 0, rfl⟩
    · have e : workI a b n g = (cntW (workB n g) a (b - a).toNat, 0) := by simp [workI, h1, h2, h3, hn]
      have HH := fun q d => refHas_any v n g d (w.drewN q) (by
        obtain ⟨p, cap, e1, hm, hI⟩ := hI
        exact ⟨p, cap, e1, hm, fun j hj => hI j hj⟩)
      obtain ⟨p, cap, rfl, hm, hI⟩ := hI
      rw [e]
      unfold maxLen at hm
      have hn' : (n : Int) ≤ 400 := by omega
      clear e hI
      go_enter Try.func18, Try.ntmps18
      go_wp2
      go_loopw [8, 9] (fun m i wr => ∃ k q : Nat, a + (k : Int) ≤ b ∧ i = .int .i64 (a + k) ∧ m = .int .i64 (cntW (workB n g) a k) ∧ wr = w.drewN q) (fun _ i _ => (b - intOf i).toNat)
      case atStart => exact ⟨0, 0, by omega, by rw [show a + ((0 : Nat) : Int) = a by omega], rfl, rfl⟩
      case round =>
        obtain ⟨k, q, hk, rfl, rfl, hwr⟩ := hrel
        have HH1 := HH q (a + (k : Int))
        rw [← hwr] at HH1
        have HWR := Lib.hid hwr
        clear hwr HH
        obtain ⟨c0, c1⟩ := cntW_bd (workB n g) a k
        have c2 : a + ((k + 1 : Nat) : Int) = a + (k : Int) + 1 := by omega
        have C2 := Lib.hid c2
        clear c2
        by_cases hlt : a + (k : Int) < b
        · by_cases hw : (a + (k : Int)) % 7 < 5
          · by_cases hh : hasB n g (a + (k : Int)) = true
            · have C3 := Lib.hid (show cntW (workB n g) a (k + 1) = cntW (workB n g) a k by simp [cntW, workB, hh])
              go_wp2_with (go_at_call 31; (with_reducible refine HH1.mono ?_); rintro e w3 ⟨rfl, q2, rfl⟩)
              go_roundw
              case rel => exact ⟨k + 1, q + q2, by rw [C2.out]; omega, by rw [C2.out], by rw [C3.out], by rw [HWR.out, World.drewN_drewN]⟩
              case measure => simp [intOf]; omega
            · have hh' : hasB n g (a + (k : Int)) = false := by simpa using hh
              have C3 := Lib.hid (show cntW (workB n g) a (k + 1) = cntW (workB n g) a k + 1 by simp [cntW, workB, hh', hw])
              clear hh
              go_wp2_with (go_at_call 31; (with_reducible refine HH1.mono ?_); rintro e w3 ⟨rfl, q2, rfl⟩)
              go_roundw
              case rel => exact ⟨k + 1, q + q2, by rw [C2.out]; omega, by rw [C2.out], by rw [C3.out], by rw [HWR.out, World.drewN_drewN]⟩
              case measure => simp [intOf]; omega
          · have C3 := Lib.hid (show cntW (workB n g) a (k + 1) = cntW (workB n g) a k by simp [cntW, workB, hw])
            go_wp2
            go_roundw
            case rel => exact ⟨k + 1, q, by rw [C2.out]; omega, by rw [C2.out], by rw [C3.out], HWR.out⟩
            case measure => simp [intOf]; omega
        · have C3 := Lib.hid (show (b - a).toNat = k by omega)
          go_wp2
          go_ret2
          exact ⟨ret_ii (by rw [C3.out]) rfl, _, HWR.out⟩
  · have e : workI a b n g = (0, 9) := by simp [workI, h]
    obtain ⟨p, cap, rfl, hm, hI⟩ := hI
    rw [e]
    clear e hI
    have h' : a < 0 ∨ b < a ∨ 36865 < b := by omega
    clear h
    rcases h' with h | h | h
    all_goals
      go_enter Try.func18, Try.ntmps18
      go_wp2
      all_goals
        go_ret2
        exact ⟨rfl, 0, rfl⟩
end Go.Proofs.Ytcgeflblcpdnkaa
