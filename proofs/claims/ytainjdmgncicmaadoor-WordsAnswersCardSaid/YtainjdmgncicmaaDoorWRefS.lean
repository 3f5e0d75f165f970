/- The reference's Split. -/
import Derived.Test.YtainjdmgncicmaaDoorWRefJ
import Derived.Test.YtainjdmgncicmaaDoorWRefP
import Derived.Test.YtainjdmgncicmaaDoorWRefA
import Derived.Shelf.Strings.Split
namespace Go.Proofs.YtainjdmgncicmaaDoor
open Go.RowKit Go.Shelf

/-- How many spaces a text has. -/
theorem index_sp (x : ByteArray) : Lib.indexB x ⟨#[32]⟩ = Lib.indexByte x.data.toList 32 := Lib.index_one _ _
theorem count_sp (x : ByteArray) : (Lib.countB x ⟨#[32]⟩ : Int) = (Lib.countByte x.data.toList 32 : Nat) := by
  show ((Lib.count x.data.toList [32] : Nat) : Int) = _
  rw [Lib.count_one]; rfl

set_option maxHeartbeats 1000000 in
/-- strings.Split at a space. -/
theorem splitSp_any (s : ByteArray) (w : World) (hs : s.size < 4294967281) :
    Calls Tryd.prog 34 #[.string s, .string ⟨#[32]⟩] w fun e w' =>
      e = .returned (.slice (some ⟨w.heap.size, 0, none⟩) (Lib.countB s ⟨#[32]⟩ + 1) (Lib.countB s ⟨#[32]⟩ + 1)) ∧ w' = w.alloc (.cells ((Lib.splitB ⟨#[32]⟩ 0 (Lib.countB s ⟨#[32]⟩) s).map Value.string).toArray 9) := by
  have h1 : 1 ≤ (⟨#[32]⟩ : ByteArray).size := by decide
  have hle := Lib.countB_le ⟨#[32]⟩ h1 s.size s (Nat.le_refl _)
  have hlen := Lib.splitB_all ⟨#[32]⟩ h1 0 _ s rfl
  have c := Any.strings_genSplit_core { Tryd.laysM146 with } Tryd.laysM146.i9 s ⟨#[32]⟩ 0 (-1) (Lib.countB s ⟨#[32]⟩ + 1) w hs h1 (Nat.zero_le _)
    (fun x c _ => (Any.strings_Index_one { Tryd.laysM146 with } x 32 _).mono fun e w' ⟨he, hw⟩ => ⟨by rw [he, index_sp], hw⟩)
    ((Any.strings_Count_one { Tryd.laysM146 with } s 32 w).mono fun e w' ⟨he, hw⟩ => ⟨by rw [he, count_sp], hw⟩)
    (by decide) (by decide) (by rw [if_pos (by decide)]; omega)
  rw [Nat.add_sub_cancel, hlen] at c
  have e2 : Lib.cellsOf (Lib.splitB ⟨#[32]⟩ 0 (Lib.countB s ⟨#[32]⟩) s) (Lib.countB s ⟨#[32]⟩ + 1) = ((Lib.splitB ⟨#[32]⟩ 0 (Lib.countB s ⟨#[32]⟩) s).map Value.string).toArray := by rw [← hlen]; exact Lib.cellsOf_full _
  rw [e2] at c
  have C := Lib.hid c
  clear c e2 hlen
  generalize hO : World.alloc w (.cells ((Lib.splitB ⟨#[32]⟩ 0 (Lib.countB s ⟨#[32]⟩) s).map Value.string).toArray 9) = w1
  have C2 : Hid (Calls Tryd.prog 58 #[.string s, .string ⟨#[32]⟩, .int .i64 0, .int .i64 (-1)] w fun e w' => e = .returned (.slice (some ⟨w.heap.size, 0, none⟩) (Lib.countB s ⟨#[32]⟩ + 1) (Lib.countB s ⟨#[32]⟩ + 1)) ∧ w' = w1) := by
    rw [← hO]; exact C.out
  clear C hO
  generalize Lib.countB s ⟨#[32]⟩ + 1 = cn at *
  go_enter Tryd.func34, Tryd.ntmps34
  go_wp2_with (go_at_call 58; (with_reducible refine C2.out.mono ?_); rintro e w' ⟨rfl, hw⟩; rw [hw])
  go_ret
  exact ⟨rfl, rfl⟩

set_option maxHeartbeats 2000000 in
set_option maxRecDepth 100000 in
theorem refSplit_limit (s : ByteArray) (h : 16384 < s.size ∨ 400 < Lib.countByte s.data.toList 10) (w : World) :
    Calls Tryd.prog 14 #[.string s] w fun e w' => e = .returned (.tuple #[.slice none 0 0, .int .i64 1]) ∧ w = w' := by
  have hcount := same'' fun w => Tryd.strings_Count_one s 10 w
  generalize Lib.countByte s.data.toList 10 = nn at *
  by_cases h1 : 16384 < s.size
  · have h1' : (16384 : Int) < (s.size : Int) := by omega
    go_enter Tryd.func14, Tryd.ntmps14
    go_wp2_with fail
    go_ret2
    exact ⟨rfl, rfl⟩
  · have h1' : ¬ (16384 : Int) < (s.size : Int) := by omega
    have h2 : (400 : Int) < (nn : Int) := by omega
    go_enter Tryd.func14, Tryd.ntmps14
    go_wp2_with (go_at_call 26; (with_reducible refine (hcount _).mono ?_); rintro e w' ⟨rfl, rfl⟩)
    go_ret2
    exact ⟨rfl, rfl⟩

/-- The reference's check of the last line. -/
theorem whole_last {s : ByteArray} (h : 0 < s.size) : wholeB s = (s[s.size - 1] == 10) := by
  have hl : 0 < s.data.toList.length := by rw [Array.length_toList]; exact h
  have e : s.data.toList.drop (s.data.toList.length - 1) = [s[s.size - 1]] := by
    have h2 : s.data.toList.length - 1 < s.data.toList.length := by omega
    have := List.getElem_cons_drop h2
    rw [show s.data.toList.length - 1 + 1 = s.data.toList.length by omega, List.drop_length] at this
    rw [← this]
    simp only [Array.length_toList]
    rfl
  have hne := nonempty (s := s) (by omega)
  rw [wholeB, hne, Bool.false_or, ← Lib.hasSuffix_of_drop, decide_eq_true (show [(10 : UInt8)].length ≤ s.data.toList.length from hl), Bool.true_and]
  rw [show s.data.toList.length - [(10 : UInt8)].length = s.data.toList.length - 1 from rfl, e]
  simp [Bool.eq_iff_iff]

theorem size_ne {s : ByteArray} (h : 0 < s.size) : ¬ s.toList = [] := by
  intro e
  have := nonempty (s := s) (by omega)
  rw [e] at this
  cases this
theorem last_ten {s : ByteArray} (h : 0 < s.size) {b : Bool} (hb : (s[s.size - 1] == 10) = b) : ((s[s.size - 1].toNat : Int) == 10) = b ∧ ((s[s.size - 1].toNat : Int) != 10) = !b := by
  have : ((s[s.size - 1].toNat : Int) == 10) = b := by
    rw [← hb, Bool.eq_iff_iff, beq_iff_eq, beq_iff_eq, ← UInt8.toNat_inj]
    show _ ↔ s[s.size - 1].toNat = 10
    omega
  exact ⟨this, by rw [bne, this]⟩

set_option maxHeartbeats 4000000 in
set_option maxRecDepth 100000 in
theorem refSplit_form (s : ByteArray) (hs : s.size ≤ 16384) (hn : Lib.countByte s.data.toList 10 ≤ 400) (h : wholeB s = false ∨ s.data.toList.all okByte = false) (w : World) :
    Calls Tryd.prog 14 #[.string s] w fun e w' => e = .returned (.tuple #[.slice none 0 0, .int .i64 4]) ∧ w = w' := by
  have hcount := same'' fun w => Tryd.strings_Count_one s 10 w
  have h1' : ¬ (16384 : Int) < (s.size : Int) := by omega
  have h2 : ¬ (400 : Int) < ((Lib.countByte s.data.toList 10 : Nat) : Int) := by omega
  generalize Lib.countByte s.data.toList 10 = nn at *
  have h0 : 0 < s.size := by
    rcases Nat.eq_zero_or_pos s.size with h0 | h0
    · have e1 : s.data.toList = [] := List.eq_nil_of_length_eq_zero (by simpa using h0)
      rcases h with h | h
      · rw [wholeB, isEmpty_data, e1] at h; cases h
      · rw [e1] at h; cases h
    · exact h0
  have he := nonempty (s := s) (by omega)
  have he2 := size_ne h0
  have hz1 : (1 : Int) ≤ (s.size : Int) := by omega
  rw [whole_last h0] at h
  by_cases hb : (s[s.size - 1] == 10) = true
  · have h3 : s.data.toList.all okByte = false := by
      rcases h with h | h
      · rw [hb] at h; cases h
      · exact h
    obtain ⟨l1, l2⟩ := last_ten h0 hb
    have H3 := Lib.hid h3
    clear h h3 hb
    go_enter Tryd.func14, Tryd.ntmps14
    go_wp2_with (go_at_call 26; (with_reducible refine (hcount _).mono ?_); rintro e w' ⟨rfl, rfl⟩)
    go_loop [4] (fun v => ∃ m : Nat, m ≤ s.size ∧ v = .int .i64 m ∧ Upto okByte s m) (fun v => s.size - (intOf v).toNat)
    case atStart => exact ⟨0, Nat.zero_le _, rfl, Upto.zero _ _⟩
    case round =>
      obtain ⟨m, hm, rfl, ho⟩ := hrel
      by_cases hlm : m < s.size
      · have hlm' : (m : Int) < (s.size : Int) := by omega
        by_cases hok : okByte s[m] = true
        · have HNX := Lib.hid (ho.next hlm hok)
          have hk2 := okByte_iff.1 hok
          clear ho hok l1 l2
          go_wp2_with fail
          all_goals first
            | exact ⟨⟨m + 1, by omega, by go_num, HNX.out⟩, by simp [intOf]; omega⟩
            | (exfalso; omega)
            | (exfalso; rename_i h9; simp at h9; omega)
            | (exfalso; rename_i h9 _; simp at h9; omega)
        · have hk2 : ¬ (s[m].toNat = 10 ∨ (32 ≤ s[m].toNat ∧ s[m].toNat ≤ 126)) := fun h => hok (okByte_iff.2 h)
          clear ho hok l1 l2
          go_wp2_with fail
          all_goals first
            | (exfalso; omega)
            | (go_ret2; exact ⟨rfl, rfl⟩)
            | (exfalso; rename_i h9; simp at h9; omega)
      · obtain rfl : m = s.size := by omega
        have := ho.all
        rw [H3.out] at this
        cases this
  · have hb' : (s[s.size - 1] == 10) = false := by simpa using hb
    obtain ⟨l1, l2⟩ := last_ten h0 hb'
    clear h hb hb'
    go_enter Tryd.func14, Tryd.ntmps14
    go_wp2_with (go_at_call 26; (with_reducible refine (hcount _).mono ?_); rintro e w' ⟨rfl, rfl⟩)
    go_ret2
    exact ⟨rfl, rfl⟩
end Go.Proofs.YtainjdmgncicmaaDoor
