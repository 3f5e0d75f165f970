/- WordsAnswers: both sides' answers, as functions of what they are asked. -/
import Derived.Test.YtainjdmgncicmaaDoorWRefT
import Derived.Test.YtainjdmgncicmaaDoorWC
namespace Go.Proofs.YtainjdmgncicmaaDoor
open Go.RowKit Go.Shelf

/-- Which error Split reports, and what it reads. -/
def splitE (s : ByteArray) : Int :=
  if 16384 < s.size ∨ 400 < Lib.countByte s.data.toList 10 then 1 else if wholeB s = false ∨ s.data.toList.all okByte = false then 4 else 0
def splitL (s : ByteArray) : List (List ByteArray) :=
  if 16384 < s.size ∨ 400 < Lib.countByte s.data.toList 10 then [] else if wholeB s = false ∨ s.data.toList.all okByte = false then [] else linesB s.data.toList
def SplitPost (s : ByteArray) (w : World) (e : Ending) (w' : World) : Prop := ∃ v, e = .returned (.tuple #[v, .int .i64 (splitE s)]) ∧ LinesAt w' v (splitL s) ∧ Below w.heap.size w w'

theorem nil_lines (w : World) : LinesAt w (.slice none 0 0) [] := ⟨none, 0, rfl, fun h => by simp at h⟩

theorem split_any (s : ByteArray) (w : World) (hL : Laid w) : Calls Tryd.prog 13 #[.string s] w (SplitPost s w) := by
  unfold SplitPost splitE splitL
  by_cases h1 : 16384 < s.size ∨ 400 < Lib.countByte s.data.toList 10
  · rw [if_pos h1, if_pos h1]
    exact (split_limit s h1 w).mono fun e w' ⟨he, hw⟩ => ⟨_, he, nil_lines _, by rw [hw]; exact Below.refl _ _⟩
  · rw [if_neg h1, if_neg h1]
    have h1a : s.size ≤ 16384 := by omega
    have h1b : Lib.countByte s.data.toList 10 ≤ 400 := by omega
    by_cases h2 : wholeB s = false ∨ s.data.toList.all okByte = false
    · rw [if_pos h2, if_pos h2]
      exact (split_form s h1a h1b h2 w).mono fun e w' ⟨he, hw⟩ => ⟨_, he, nil_lines _, by rw [hw]; exact Below.refl _ _⟩
    · rw [if_neg h2, if_neg h2]
      have h2a : wholeB s = true := by
        cases h : wholeB s with
        | true => rfl
        | false => exact absurd (Or.inl h) h2
      have h2b : s.data.toList.all okByte = true := by
        cases h : s.data.toList.all okByte with
        | true => rfl
        | false => exact absurd (Or.inr h) h2
      exact (split_ok s h1a h1b h2a h2b w hL.sp).mono fun e w' ⟨v, he, ht, hb⟩ => ⟨v, he, ht.lines, hb⟩

theorem refSplit_any (s : ByteArray) (w : World) : Calls Tryd.prog 14 #[.string s] w (SplitPost s w) := by
  unfold SplitPost splitE splitL
  by_cases h1 : 16384 < s.size ∨ 400 < Lib.countByte s.data.toList 10
  · rw [if_pos h1, if_pos h1]
    exact (refSplit_limit s h1 w).mono fun e w' ⟨he, hw⟩ => ⟨_, he, nil_lines _, by rw [hw]; exact Below.refl _ _⟩
  · rw [if_neg h1, if_neg h1]
    have h1a : s.size ≤ 16384 := by omega
    have h1b : Lib.countByte s.data.toList 10 ≤ 400 := by omega
    by_cases h2 : wholeB s = false ∨ s.data.toList.all okByte = false
    · rw [if_pos h2, if_pos h2]
      exact (refSplit_form s h1a h1b h2 w).mono fun e w' ⟨he, hw⟩ => ⟨_, he, nil_lines _, by rw [hw]; exact Below.refl _ _⟩
    · rw [if_neg h2, if_neg h2]
      have h2a : wholeB s = true := by
        cases h : wholeB s with
        | true => rfl
        | false => exact absurd (Or.inl h) h2
      have h2b : s.data.toList.all okByte = true := by
        cases h : s.data.toList.all okByte with
        | true => rfl
        | false => exact absurd (Or.inr h) h2
      exact refSplit_ok s h1a h1b h2a h2b w

/-- How many lines, and how many words a line, at most. -/
theorem splitL_len (s : ByteArray) : (splitL s).length ≤ s.size := by
  unfold splitL
  split
  · simp
  · split
    · simp
    · have := linesB_len s.data.toList
      simpa using this

/-- Join, where it is not too much. -/
theorem join_any (v : Value) (ls : List (List ByteArray)) (hN : ls.length ≤ 400) (hw : ∀ l ∈ ls, l.length ≤ 1048576 ∧ ∀ x ∈ l, x.size ≤ 1048576) (hs2 : textSz ls ≤ 1099511627776) (w : World) (h : LinesAt w v ls) :
    Calls Tryd.prog 20 #[v] w fun e w' => joinR ls e ∧ Below w.heap.size w w' := by
  by_cases ha : allOk ls = true
  · have hok : ∀ l ∈ ls, l.length ≤ 1048576 ∧ ∀ x ∈ l, wordOk x = true ∧ x.size ≤ 9223372036854775807 := fun l hl =>
      ⟨(hw l hl).1, fun x hx => ⟨List.all_eq_true.1 (List.all_eq_true.1 ha l hl) x hx, by have := (hw l hl).2 x hx; omega⟩⟩
    by_cases hb : textSz ls ≤ 16384
    · exact (join_ok v ls hN hok hb w h).mono fun e w' ⟨x, he, hx, hbl⟩ => ⟨by rw [joinR, if_pos ha, if_pos hb]; exact ⟨x, he, hx⟩, hbl⟩
    · exact (join_big v ls hN hok (by omega) (by omega) w h).mono fun e w' ⟨he, hw⟩ => ⟨by rw [joinR, if_pos ha, if_neg hb]; exact he, by rw [hw]; exact Below.refl _ _⟩
  · exact (join_form v ls hN (fun l hl => ⟨(hw l hl).1, fun x hx => by have := (hw l hl).2 x hx; omega⟩) (by simpa using ha) (by omega) w h).mono fun e w' ⟨he, hw⟩ => ⟨by rw [joinR, if_neg ha]; exact he, by rw [hw]; exact Below.refl _ _⟩

/-- What Join answers is a text and an error, one and the same. -/
theorem joinR_one (ls : List (List ByteArray)) : ∃ (x : ByteArray) (n : Int), ∀ e, joinR ls e → e = .returned (.tuple #[.string x, .int .i64 n]) := by
  unfold joinR
  by_cases ha : allOk ls = true
  · by_cases hb : textSz ls ≤ 16384
    · refine ⟨⟨(allText ls).toArray⟩, 0, fun e h => ?_⟩
      rw [if_pos ha, if_pos hb] at h
      obtain ⟨x, rfl, hx⟩ := h
      rw [← hx]
    · exact ⟨⟨#[]⟩, 1, fun e h => by rw [if_pos ha, if_neg hb] at h; exact h⟩
  · exact ⟨⟨#[]⟩, 4, fun e h => by rw [if_neg ha] at h; exact h⟩

set_option maxHeartbeats 400000 in
/-- Tape.One. -/
theorem one_any (w : World) (tb : Nat) (h : Tape w tb) (n : Int) (h1 : 1 ≤ n) (hn : n ≤ 1000000) :
    Calls Tryd.prog 9 #[.pointer (some ⟨tb, 0, none⟩), .int .i64 n] w fun e w' => (∃ b, e = .returned (.bool b)) ∧ w.grownBy w' (some tb) ∧ Tape w' tb := by
  have hN := next_any w tb h n (by omega)
  go_enter Tryd.func9, Tryd.ntmps9
  go_wp2_with (go_at_call 10; (with_reducible refine hN.mono ?_); rintro e w' ⟨x, rfl, hx, hb, ht⟩; obtain ⟨x0, x1, _⟩ := hx; have x2 := x1 h1)
  go_ret
  exact ⟨⟨_, rfl⟩, hb, ht⟩
end Go.Proofs.YtainjdmgncicmaaDoor
