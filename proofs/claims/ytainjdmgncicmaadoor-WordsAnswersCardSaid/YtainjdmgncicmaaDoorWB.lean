/- words.Name. -/
import Derived.Test.YtainjdmgncicmaaDoorWA
namespace Go.Proofs.YtainjdmgncicmaaDoor
open Go.RowKit

set_option maxHeartbeats 400000 in
theorem digit_any (c : UInt8) (w : World) :
    Calls Tryd.prog 36 #[.int .u8 c.toNat] w fun e w' => e = .returned (.bool (digitB c)) ∧ w' = w := by
  by_cases h1 : 48 ≤ c.toNat
  · by_cases h2 : c.toNat ≤ 57
    · rw [show digitB c = true from digitB_iff.2 ⟨h1, h2⟩]
      go_enter Tryd.func36, Tryd.ntmps36
      go_wp2
      all_goals first
        | (go_ret; exact ⟨by first | rfl | simp <;> omega, rfl⟩)
        | (exfalso; omega)
    · rw [show digitB c = false by simp [digitB]; omega]
      go_enter Tryd.func36, Tryd.ntmps36
      go_wp2
      all_goals first
        | (go_ret; exact ⟨by first | rfl | simp <;> omega, rfl⟩)
        | (exfalso; omega)
  · rw [show digitB c = false by simp [digitB]; omega]
    go_enter Tryd.func36, Tryd.ntmps36
    go_wp2
    all_goals first
      | (go_ret; exact ⟨by first | rfl | simp <;> omega, rfl⟩)
      | (exfalso; omega)

def nameByte (c : UInt8) : Bool := letterB c || digitB c
/-- A name. -/
def nameB (s : ByteArray) : Bool := decide (s.size ≤ 12) && (if h : 0 < s.size then letterB s[0] else false) && s.data.toList.all nameByte

theorem flip' {f : FuncId} {args : Array Value} {v : Value} (h : ∀ w, Calls Tryd.prog f args w fun e w' => e = .returned v ∧ w' = w) : ∀ w, Calls Tryd.prog f args w fun e w' => e = .returned v ∧ w = w' :=
  fun w => (h w).mono fun _ _ h => ⟨h.1, h.2.symm⟩

set_option maxHeartbeats 1000000 in
theorem name_any (s : ByteArray) (hs : s.size ≤ 9223372036854775807) (w : World) :
    Calls Tryd.prog 16 #[.string s] w fun e w' => e = .returned (.bool (nameB s)) ∧ w' = w := by
  by_cases h0 : s.size = 0
  · have e : s.toList.isEmpty = true := by
      rw [isEmpty_data, List.isEmpty_iff_length_eq_zero]
      simpa using h0
    have hn : nameB s = false := by simp [nameB, h0]
    rw [hn]
    go_enter Tryd.func16, Tryd.ntmps16
    go_wp2_with fail
    go_ret
    exact ⟨rfl, rfl⟩
  · have e := nonempty h0
    have h00 : 0 < s.size := by omega
    by_cases h12 : 12 < s.size
    · have hn : nameB s = false := by simp [nameB]; omega
      have h12' : (12 : Int) < (s.size : Int) := by omega
      rw [hn]
      go_enter Tryd.func16, Tryd.ntmps16
      go_wp2_with fail
      go_ret
      exact ⟨rfl, rfl⟩
    · have h12' : ¬ (12 : Int) < (s.size : Int) := by omega
      have hpos : (0 : Int) < (s.size : Int) := by omega
      have hl := flip' (letter_any s[0])
      by_cases hlet : letterB s[0] = true
      · have hn : nameB s = s.data.toList.all nameByte := by simp [nameB, h00, hlet]; omega
        rw [hlet] at hl
        refine Calls.mono (R := AllPost nameByte s w) ?_ (fun e w' ⟨h1, h2⟩ => ⟨by rw [h1, hn], h2⟩)
        clear hn
        go_enter Tryd.func16, Tryd.ntmps16
        go_wp2_with (go_at_call 35; (with_reducible refine (hl _).mono ?_); rintro e w' ⟨rfl, rfl⟩)
        go_loop [19] (fun v => ∃ j : Nat, j ≤ s.size ∧ v = .int .i64 j ∧ Upto nameByte s j) (fun v => s.size - (intOf v).toNat)
        case atStart => exact ⟨0, Nat.zero_le _, rfl, Upto.zero _ _⟩
        case round =>
          obtain ⟨j, hj, rfl, ho⟩ := hrel
          by_cases hlt : j < s.size
          · have hlt' : (j : Int) < (s.size : Int) := by omega
            have k1 := flip' (letter_any s[j])
            have k2 := flip' (digit_any s[j])
            by_cases hok : nameByte s[j] = true
            · have hnx := ho.next hlt hok
              unfold nameByte at hok
              clear ho
              generalize letterB s[j] = bl at *
              generalize digitB s[j] = bd at *
              cases bl <;> cases bd
              all_goals first | (exact absurd hok (by decide)) | skip
              all_goals (
                go_wp2_with (first
                  | (go_at_call 35; (with_reducible refine (k1 _).mono ?_); rintro e w' ⟨rfl, rfl⟩)
                  | (go_at_call 36; (with_reducible refine (k2 _).mono ?_); rintro e w' ⟨rfl, rfl⟩))
                go_round
                case rel => exact ⟨j + 1, by omega, by go_num, hnx⟩
                case measure => simp [intOf]; omega)
            · have hno : nameByte s[j] = false := by simpa using hok
              have hno2 := hno
              unfold nameByte at hno2
              clear ho hok
              generalize letterB s[j] = bl at *
              generalize digitB s[j] = bd at *
              cases bl <;> cases bd
              all_goals first | (exact absurd hno2 (by decide)) | skip
              all_goals (
                go_wp2_with (first
                  | (go_at_call 35; (with_reducible refine (k1 _).mono ?_); rintro e w' ⟨rfl, rfl⟩)
                  | (go_at_call 36; (with_reducible refine (k2 _).mono ?_); rintro e w' ⟨rfl, rfl⟩))
                go_ret
                exact AllPost.no hlt hno)
          · obtain rfl : j = s.size := by omega
            go_wp2_with fail
            go_ret
            exact AllPost.yes ho
      · have hlet : letterB s[0] = false := by simpa using hlet
        have hn : nameB s = false := by simp [nameB, h00, hlet]
        rw [hlet] at hl
        rw [hn]
        clear hn
        go_enter Tryd.func16, Tryd.ntmps16
        go_wp2_with (go_at_call 35; (with_reducible refine (hl _).mono ?_); rintro e w' ⟨rfl, rfl⟩)
        go_ret
        exact ⟨rfl, rfl⟩
end Go.Proofs.YtainjdmgncicmaaDoor
