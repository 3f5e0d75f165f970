/- landaidref02.Name. -/
import Derived.Test.YtainjdmgncicmaaDoorWB
namespace Go.Proofs.YtainjdmgncicmaaDoor
open Go.RowKit

theorem nameByte_iff {c : UInt8} : nameByte c = true ↔ (97 ≤ c.toNat ∧ c.toNat ≤ 122) ∨ (48 ≤ c.toNat ∧ c.toNat ≤ 57) := by
  unfold nameByte
  rw [Bool.or_eq_true, letterB_iff, digitB_iff]

set_option maxHeartbeats 1000000 in
set_option maxRecDepth 100000 in
theorem refName_any (s : ByteArray) (hs : s.size ≤ 9223372036854775807) (w : World) :
    Calls Tryd.prog 17 #[.string s] w fun e w' => e = .returned (.bool (nameB s)) ∧ w' = w := by
  by_cases h0 : s.size = 0
  · have hn : nameB s = false := by simp [nameB, h0]
    have h1 : (s.size : Int) < 1 := by omega
    rw [hn]
    go_enter Tryd.func17, Tryd.ntmps17
    go_wp2_with fail
    go_ret
    exact ⟨rfl, rfl⟩
  · have h00 : 0 < s.size := by omega
    have hpos : ¬ (s.size : Int) < 1 := by omega
    have hpos' : (0 : Int) < (s.size : Int) := by omega
    by_cases h12 : 12 < s.size
    · have hn : nameB s = false := by simp [nameB]; omega
      have h12' : (12 : Int) < (s.size : Int) := by omega
      rw [hn]
      go_enter Tryd.func17, Tryd.ntmps17
      go_wp2_with fail
      go_ret
      exact ⟨rfl, rfl⟩
    · have h12' : ¬ (12 : Int) < (s.size : Int) := by omega
      by_cases hlet : letterB s[0] = true
      · have hn : nameB s = s.data.toList.all nameByte := by simp [nameB, h00, hlet]; omega
        have hl := letterB_iff.1 hlet
        have l1 : ¬ (s[0].toNat : Int) < 97 := by omega
        have l2 : ¬ (122 : Int) < (s[0].toNat : Int) := by omega
        refine Calls.mono (R := AllPost nameByte s w) ?_ (fun e w' ⟨h1, h2⟩ => ⟨by rw [h1, hn], h2⟩)
        clear hn hlet hl
        go_enter Tryd.func17, Tryd.ntmps17
        go_wp2_with fail
        go_loop [3] (fun v => ∃ j : Nat, j ≤ s.size ∧ v = .int .i64 j ∧ Upto nameByte s j) (fun v => s.size - (intOf v).toNat)
        case atStart => exact ⟨0, Nat.zero_le _, rfl, Upto.zero _ _⟩
        case round =>
          obtain ⟨j, hj, rfl, ho⟩ := hrel
          by_cases hlt : j < s.size
          · have hlt' : (j : Int) < (s.size : Int) := by omega
            by_cases hok : nameByte s[j] = true
            · have hnx := ho.next hlt hok
              have hk := nameByte_iff.1 hok
              clear ho hok
              go_wp2_with fail
              all_goals first
                | exact ⟨⟨j + 1, by omega, by go_num, hnx⟩, by simp [intOf]; omega⟩
                | (exfalso; omega)
                | (exfalso; rename_i h9; simp at h9; omega)
                | (exfalso; rename_i h9 _; simp at h9; omega)
            · have hk : ¬ ((97 ≤ s[j].toNat ∧ s[j].toNat ≤ 122) ∨ (48 ≤ s[j].toNat ∧ s[j].toNat ≤ 57)) := fun h => hok (nameByte_iff.2 h)
              have hno : nameByte s[j] = false := by simpa using hok
              clear ho hok
              go_wp2_with fail
              all_goals first
                | (exfalso; omega)
                | (go_ret; exact AllPost.no hlt hno)
                | (exfalso; rename_i h9; simp at h9; omega)
                | (exfalso; rename_i h9 _; simp at h9; omega)
          · obtain rfl : j = s.size := by omega
            go_wp2_with fail
            go_ret
            exact AllPost.yes ho
      · have hn : nameB s = false := by
          have : letterB s[0] = false := by simpa using hlet
          simp [nameB, h00, this]
        have hl : ¬ (97 ≤ s[0].toNat ∧ s[0].toNat ≤ 122) := fun h => hlet (letterB_iff.2 h)
        rw [hn]
        clear hn hlet
        go_enter Tryd.func17, Tryd.ntmps17
        by_cases l1 : (s[0].toNat : Int) < 97
        · go_wp2_with fail
          go_ret
          exact ⟨rfl, rfl⟩
        · have l2 : (122 : Int) < (s[0].toNat : Int) := by omega
          go_wp2_with fail
          go_ret
          exact ⟨rfl, rfl⟩
end Go.Proofs.YtainjdmgncicmaaDoor
