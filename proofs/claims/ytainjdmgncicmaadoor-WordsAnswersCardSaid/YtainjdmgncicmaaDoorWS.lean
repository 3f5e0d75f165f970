/- words.Split: what it calls. -/
import Derived.Test.YtainjdmgncicmaaDoorWL
namespace Go.Proofs.YtainjdmgncicmaaDoor
open Go.RowKit Go.Shelf

/-- Ends with a line feed, or is empty. -/
def wholeB (s : ByteArray) : Bool := s.toList.isEmpty || Lib.hasSuffix s.data.toList [10]

set_option maxHeartbeats 400000 in
theorem whole_any (s : ByteArray) (hs : s.size ≤ 9223372036854775807) (w : World) :
    Calls Tryd.prog 27 #[.string s] w fun e w' => e = .returned (.bool (wholeB s)) ∧ w' = w := by
  have hp := fun w => Tryd.strings_HasSuffix s ⟨#[10]⟩ w hs
  unfold wholeB
  generalize hb : s.toList.isEmpty = b
  cases b
  · go_enter Tryd.func27, Tryd.ntmps27
    go_wp2_with (go_at_call 51; (with_reducible refine (hp _).mono ?_); rintro e w' ⟨rfl, rfl⟩)
    go_ret
    exact ⟨by simp, rfl⟩
  · go_enter Tryd.func27, Tryd.ntmps27
    go_wp2_with (go_at_call 51; (with_reducible refine (hp _).mono ?_); rintro e w' ⟨rfl, rfl⟩)
    go_ret
    exact ⟨by simp, rfl⟩

set_option maxHeartbeats 400000 in
theorem clone_any (s : ByteArray) (hs : s.size ≤ 281474976710656) (w : World) :
    Calls Tryd.prog 30 #[.string s] w fun e w' => e = .returned (.string s) ∧ Below w.heap.size w w' := by
  have hp := fun w => Tryd.stringslite_Clone s w hs
  go_enter Tryd.func30, Tryd.ntmps30
  go_wp2_with (go_at_call 53; (with_reducible refine (hp _).mono ?_); rintro e w' ⟨rfl, hb⟩)
  go_ret
  exact ⟨rfl, hb⟩

set_option maxHeartbeats 400000 in
theorem lines_any (s : ByteArray) (w : World) :
    Calls Tryd.prog 29 #[.string s] w fun e w' => e = .returned (.func (.func 52) #[] #[.pointer (some ⟨w.heap.size, 0, none⟩)]) ∧ w' = w.alloc (.cells #[.string s] 9) := by
  go_enter Tryd.func29, Tryd.ntmps29
  go_wp2
  go_ret
  exact ⟨rfl, rfl⟩

/-- What stands ahead of the first '#'. -/
def codeOf (l : List UInt8) : List UInt8 := l.takeWhile (fun c => !(c == 35))

theorem codeOf_hit : ∀ (l : List UInt8) (i : Nat), Lib.indexByte l 35 = (i : Int) → codeOf l = l.take i := by
  intro l
  induction l with
  | nil => intro i h; simp [Lib.indexByte] at h
  | cons c r ih =>
    intro i h
    unfold Lib.indexByte at h
    by_cases e : c = 35
    · subst e
      simp at h
      obtain rfl : i = 0 := by omega
      simp [codeOf]
    · have e' : (c == 35) = false := beq_eq_false_iff_ne.2 e
      rw [e'] at h
      simp only [Bool.false_eq_true, if_false] at h
      by_cases g : (Lib.indexByte r 35 == -1) = true
      · rw [if_pos g] at h; omega
      · rw [if_neg g] at h
        have g1 := Lib.indexByte_ge r 35
        have g2 : Lib.indexByte r 35 ≠ -1 := by simpa using g
        obtain ⟨k, rfl⟩ : ∃ k, i = k + 1 := ⟨i - 1, by omega⟩
        have := ih k (by omega)
        unfold codeOf at this ⊢
        simp [e', this]
theorem codeOf_miss : ∀ (l : List UInt8), Lib.indexByte l 35 < 0 → codeOf l = l := by
  intro l
  induction l with
  | nil => intro _; rfl
  | cons c r ih =>
    intro h
    unfold Lib.indexByte at h
    by_cases e : c = 35
    · subst e; simp at h
    · have e' : (c == 35) = false := beq_eq_false_iff_ne.2 e
      rw [e'] at h
      simp only [Bool.false_eq_true, if_false] at h
      have g : Lib.indexByte r 35 < 0 := by
        by_cases g : (Lib.indexByte r 35 == -1) = true
        · have : Lib.indexByte r 35 = -1 := by simpa using g
          omega
        · rw [if_neg g] at h; omega
      have := ih g
      unfold codeOf at this ⊢
      simp [e', this]

set_option maxHeartbeats 1000000 in
theorem slcut_any (s : ByteArray) (hs : s.size ≤ 4611686018427387904) (w : World) :
    Calls Tryd.prog 54 #[.string s, .string ⟨#[35]⟩] w fun e w' => (∃ a b f, e = .returned (.tuple #[.string a, .string b, .bool f]) ∧ a.data.toList = codeOf s.data.toList ∧ a.size ≤ s.size) ∧ ∃ q, w' = w.drewN q := by
  have hlen : s.data.toList.length = s.size := by simp
  have hx := fun w => Tryd.stringslite_Index_one s 35 w
  have hit := codeOf_hit s.data.toList
  have miss := codeOf_miss s.data.toList
  have hlt := index_lt s.data.toList 35
  have hge := Lib.indexByte_ge s.data.toList 35
  rw [hlen] at hlt
  generalize Lib.indexByte s.data.toList 35 = ix at *
  by_cases h0 : 0 ≤ ix
  · obtain ⟨i, rfl⟩ := Int.eq_ofNat_of_zero_le h0
    have hi2 : (i : Int) + 1 ≤ (s.size : Int) := by omega
    go_enter Tryd.func54, Tryd.ntmps54
    go_wp2_with (go_at_call 67; (with_reducible refine (hx _).mono ?_); rintro e w' ⟨rfl, rfl⟩)
    go_quiet (fail)
    go_wp2
    go_ret3
    have hx1 := extract_list s 0 i
    simp only [List.drop_zero, Nat.sub_zero] at hx1
    exact ⟨⟨_, _, _, rfl, by rw [hit i rfl]; exact hx1, by simp; omega⟩, _, rfl⟩
  · go_enter Tryd.func54, Tryd.ntmps54
    go_wp2_with (go_at_call 67; (with_reducible refine (hx _).mono ?_); rintro e w' ⟨rfl, rfl⟩)
    go_ret3
    exact ⟨⟨_, _, _, rfl, (miss (by omega)).symm, Nat.le_refl _⟩, 0, rfl⟩

set_option maxHeartbeats 400000 in
theorem cut_any (s : ByteArray) (hs : s.size ≤ 4611686018427387904) (w : World) :
    Calls Tryd.prog 31 #[.string s, .string ⟨#[35]⟩] w fun e w' => (∃ a b f, e = .returned (.tuple #[.string a, .string b, .bool f]) ∧ a.data.toList = codeOf s.data.toList ∧ a.size ≤ s.size) ∧ ∃ q, w' = w.drewN q := by
  have hc := fun w => slcut_any s hs w
  go_enter Tryd.func31, Tryd.ntmps31
  go_wp2_with (go_at_call 54; (with_reducible refine (hc _).mono ?_); rintro e w' ⟨⟨a, b, f, rfl, ha, hz⟩, q, rfl⟩)
  go_ret3
  exact ⟨⟨a, b, f, rfl, ha, hz⟩, q, rfl⟩
end Go.Proofs.YtainjdmgncicmaaDoor
