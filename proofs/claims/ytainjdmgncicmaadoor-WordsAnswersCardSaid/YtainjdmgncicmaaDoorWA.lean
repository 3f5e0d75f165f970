/- words: the small loops over a text. -/
import Derived.Test.YtainjdmgncicmaaDoorShelf
import Derived.Lib.Hide
import Derived.WalkKit
import Derived.WalkSpells
import Derived.BigQuiet
import Derived.Deep.QuietTactic
namespace Go.Proofs.YtainjdmgncicmaaDoor
open Go.RowKit

theorem isEmpty_data (s : ByteArray) : s.toList.isEmpty = s.data.toList.isEmpty := by rw [Lib.toList_data]
theorem nonempty {s : ByteArray} (h : ¬ s.size = 0) : s.toList.isEmpty = false := by
  rw [isEmpty_data]
  have h1 : s.data.toList.length = s.size := by simp
  cases e : s.data.toList with
  | nil => rw [e] at h1; simp at h1; exact absurd h1.symm h
  | cons a l => rfl

/-- A byte that a text may have. -/
def okByte (c : UInt8) : Bool := c.toNat == 10 || (decide (32 ≤ c.toNat) && decide (c.toNat ≤ 126))
theorem okByte_iff {c : UInt8} : okByte c = true ↔ c.toNat = 10 ∨ (32 ≤ c.toNat ∧ c.toNat ≤ 126) := by simp [okByte]
/-- A byte that a word may have. -/
def wordByte (c : UInt8) : Bool := decide (32 < c.toNat) && decide (c.toNat ≤ 126) && !(c.toNat == 35)
theorem wordByte_iff {c : UInt8} : wordByte c = true ↔ (32 < c.toNat ∧ c.toNat ≤ 126) ∧ c.toNat ≠ 35 := by simp [wordByte]
def letterB (c : UInt8) : Bool := decide (97 ≤ c.toNat) && decide (c.toNat ≤ 122)
def digitB (c : UInt8) : Bool := decide (48 ≤ c.toNat) && decide (c.toNat ≤ 57)
theorem letterB_iff {c : UInt8} : letterB c = true ↔ 97 ≤ c.toNat ∧ c.toNat ≤ 122 := by simp [letterB]
theorem digitB_iff {c : UInt8} : digitB c = true ↔ 48 ≤ c.toNat ∧ c.toNat ≤ 57 := by simp [digitB]

/-- Every byte ahead of number j is p. -/
def Upto (p : UInt8 → Bool) (s : ByteArray) (j : Nat) : Prop := ∀ i (h : i < s.size), i < j → p s[i] = true
theorem Upto.zero (p : UInt8 → Bool) (s : ByteArray) : Upto p s 0 := fun i _ h => by omega
theorem Upto.next {p : UInt8 → Bool} {s : ByteArray} {j : Nat} (h : Upto p s j) (hj : j < s.size) (hp : p s[j] = true) : Upto p s (j + 1) := fun i hi h2 => by
  by_cases e : i = j
  · subst e; exact hp
  · exact h i hi (by omega)
theorem Upto.all {p : UInt8 → Bool} {s : ByteArray} (h : Upto p s s.size) : s.data.toList.all p = true := by
  rw [List.all_eq_true]
  intro c hc
  obtain ⟨i, hi, rfl⟩ := List.getElem_of_mem hc
  have h1 : i < s.size := by simpa using hi
  have := h i h1 h1
  rw [Array.getElem_toList]
  exact this
theorem not_all {p : UInt8 → Bool} {s : ByteArray} {j : Nat} (hj : j < s.size) (hp : p s[j] = false) : s.data.toList.all p = false := by
  rw [List.all_eq_false]
  refine ⟨s[j], ?_, by simp [hp]⟩
  have : s[j] = s.data.toList[j]'(by simpa using hj) := by rw [Array.getElem_toList]; rfl
  rw [this]
  exact List.getElem_mem _

/-- The answer, behind a name. -/
def AllPost (p : UInt8 → Bool) (s : ByteArray) (w : World) (e : Ending) (w' : World) : Prop := e = .returned (.bool (s.data.toList.all p)) ∧ w' = w
theorem AllPost.yes {p : UInt8 → Bool} {s : ByteArray} {w : World} (h : Upto p s s.size) : AllPost p s w (.returned (.bool true)) w := ⟨by rw [h.all], rfl⟩
theorem AllPost.no {p : UInt8 → Bool} {s : ByteArray} {w : World} {j : Nat} (hj : j < s.size) (hp : p s[j] = false) : AllPost p s w (.returned (.bool false)) w := ⟨by rw [not_all hj hp], rfl⟩

set_option maxHeartbeats 1000000 in
theorem printable_any (s : ByteArray) (hs : s.size ≤ 9223372036854775807) (w : World) :
    Calls Tryd.prog 28 #[.string s] w (AllPost okByte s w) := by
  go_enter Tryd.func28, Tryd.ntmps28
  go_wp2
  go_loop [7] (fun v => ∃ j : Nat, j ≤ s.size ∧ v = .int .i64 j ∧ Upto okByte s j) (fun v => s.size - (intOf v).toNat)
  case atStart => exact ⟨0, Nat.zero_le _, rfl, Upto.zero _ _⟩
  case round =>
    obtain ⟨j, hj, rfl, ho⟩ := hrel
    by_cases hlt : j < s.size
    · have hlt' : (j : Int) < (s.size : Int) := by omega
      by_cases hok : okByte s[j] = true
      · have hnx := ho.next hlt hok
        have hk := okByte_iff.1 hok
        clear ho hok
        go_wp2
        all_goals first
          | exact ⟨⟨j + 1, by omega, by go_num, hnx⟩, by simp [intOf]; omega⟩
          | (exfalso; omega)
      · have hk : ¬ (s[j].toNat = 10 ∨ (32 ≤ s[j].toNat ∧ s[j].toNat ≤ 126)) := fun h => hok (okByte_iff.2 h)
        have hno : okByte s[j] = false := by simpa using hok
        clear ho hok
        go_wp2
        all_goals first
          | (exfalso; omega)
          | (go_ret; exact AllPost.no hlt hno)
          | (exfalso; rename_i h9; simp at h9; omega)
    · obtain rfl : j = s.size := by omega
      go_wp2
      go_ret
      exact AllPost.yes ho

set_option maxHeartbeats 400000 in
theorem letter_any (c : UInt8) (w : World) :
    Calls Tryd.prog 35 #[.int .u8 c.toNat] w fun e w' => e = .returned (.bool (letterB c)) ∧ w' = w := by
  by_cases h1 : 97 ≤ c.toNat
  · by_cases h2 : c.toNat ≤ 122
    · rw [show letterB c = true from letterB_iff.2 ⟨h1, h2⟩]
      go_enter Tryd.func35, Tryd.ntmps35
      go_wp2
      all_goals first
        | (go_ret; exact ⟨by first | rfl | simp <;> omega, rfl⟩)
        | (exfalso; omega)
    · rw [show letterB c = false by simp [letterB]; omega]
      go_enter Tryd.func35, Tryd.ntmps35
      go_wp2
      all_goals first
        | (go_ret; exact ⟨by first | rfl | simp <;> omega, rfl⟩)
        | (exfalso; omega)
  · rw [show letterB c = false by simp [letterB]; omega]
    go_enter Tryd.func35, Tryd.ntmps35
    go_wp2
    all_goals first
      | (go_ret; exact ⟨by first | rfl | simp <;> omega, rfl⟩)
      | (exfalso; omega)

set_option maxHeartbeats 1000000 in
theorem word_any (s : ByteArray) (hs : s.size ≤ 9223372036854775807) (w : World) :
    Calls Tryd.prog 38 #[.string s] w fun e w' => e = .returned (.bool (s.data.toList.all wordByte && decide (0 < s.size))) ∧ w' = w := by
  by_cases h0 : s.size = 0
  · have e : s = ⟨#[]⟩ := by
      have h1 : s.data.size = 0 := h0
      have h2 : s.data = #[] := Array.eq_empty_of_size_eq_zero h1
      cases s
      simp at h2
      rw [h2]
    subst e
    go_enter Tryd.func38, Tryd.ntmps38
    go_wp2
    go_loop [7] (fun v => v = .int .i64 0) (fun v => 0)
    case atStart => exact rfl
    case round =>
      obtain rfl := hrel
      go_wp2
      go_ret
      exact ⟨rfl, rfl⟩
  · refine Calls.mono (R := AllPost wordByte s w) ?_ (fun e w' ⟨h1, h2⟩ => ⟨by rw [h1, decide_eq_true (show 0 < s.size by omega), Bool.and_true], h2⟩)
    go_enter Tryd.func38, Tryd.ntmps38
    go_wp2
    go_loop [7] (fun v => ∃ j : Nat, j ≤ s.size ∧ v = .int .i64 j ∧ Upto wordByte s j) (fun v => s.size - (intOf v).toNat)
    case atStart => exact ⟨0, Nat.zero_le _, rfl, Upto.zero _ _⟩
    case round =>
      obtain ⟨j, hj, rfl, ho⟩ := hrel
      by_cases hlt : j < s.size
      · have hlt' : (j : Int) < (s.size : Int) := by omega
        by_cases hok : wordByte s[j] = true
        · have hnx := ho.next hlt hok
          have hk := wordByte_iff.1 hok
          clear ho hok
          go_wp2
          all_goals first
            | exact ⟨⟨j + 1, by omega, by go_num, hnx⟩, by simp [intOf]; omega⟩
            | (exfalso; omega)
            | (exfalso; rename_i h9 _; simp at h9; omega)
        · have hk : ¬ ((32 < s[j].toNat ∧ s[j].toNat ≤ 126) ∧ s[j].toNat ≠ 35) := fun h => hok (wordByte_iff.2 h)
          have hno : wordByte s[j] = false := by simpa using hok
          clear ho hok
          go_wp2
          all_goals first
            | (exfalso; omega)
            | (go_ret; exact AllPost.no hlt hno)
            | (exfalso; rename_i h9; simp at h9; omega)
      · obtain rfl : j = s.size := by omega
        have hne2 : s.toList.isEmpty = false := nonempty h0
        go_wp2
        all_goals (go_ret; exact AllPost.yes ho)
end Go.Proofs.YtainjdmgncicmaaDoor
