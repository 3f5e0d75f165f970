/- WordsLimits: the walk. -/
import Derived.Test.YtkeohlebdnfcoaaDoorWF
import Derived.Test.YtkeohlebdnfcoaaDoorWC
namespace Go.Proofs.YtkeohlebdnfcoaaDoor
open Go.RowKit Go.Shelf

theorem rep_one (c : UInt8) : ∀ n, Lib.repeatL [c] n = List.replicate n c := by
  intro n
  induction n with
  | zero => rfl
  | succ n ih => rw [Lib.repeatL, ih, List.replicate_succ]; rfl

theorem count_rep (c d : UInt8) (h : c ≠ d) (n : Nat) : (List.replicate n c).count d = 0 := by
  rw [List.count_replicate]
  simp [h]

theorem suffix_ten (l : List UInt8) : Lib.hasSuffix (l ++ [10]) [10] = true := by
  simp [Lib.hasSuffix, List.isSuffixOf_iff_suffix]

theorem whole_of {s : ByteArray} {l : List UInt8} (h : s.data.toList = l ++ [10]) : wholeB s = true := by
  unfold wholeB
  rw [h, suffix_ten, Bool.or_true]

/-- k times the letter a, and a line feed. -/
theorem split_a (s : ByteArray) (k : Nat) (hk : k ≤ 1000000) (hs : s.data.toList = List.replicate k 97 ++ [10]) (w : World) (hL : Laid w) :
    Calls Tryd.prog 13 #[.string s] w fun e w' => ∃ v, e = .returned (.tuple #[v, .int .i64 (if 16384 < k + 1 then 1 else 0)]) ∧ Below w.heap.size w w' := by
  have hsz : s.size = k + 1 := by
    have h : s.data.toList.length = s.size := by simp
    rw [hs] at h
    simp at h
    omega
  by_cases h : 16384 < k + 1
  · rw [if_pos h]
    refine (split_limit s (.inl (by omega)) w).mono ?_
    rintro e w' ⟨rfl, rfl⟩
    exact ⟨_, rfl, Below.refl _ _⟩
  · rw [if_neg h]
    have hc : Lib.countByte s.data.toList 10 = 1 := by
      unfold Lib.countByte
      rw [hs, List.count_append, count_rep 97 10 (by decide)]
      rfl
    refine (split_ok s (by omega) (by omega) (whole_of hs) (by
      rw [hs, List.all_append, Bool.and_eq_true]
      exact ⟨List.all_eq_true.2 (fun c hc => by rw [(List.mem_replicate.1 hc).2]; rfl), rfl⟩) w hL.sp).mono ?_
    rintro e w' ⟨v, rfl, _, hb⟩
    exact ⟨v, rfl, hb⟩

theorem split_n (s : ByteArray) (m : Nat) (h1 : 1 ≤ m) (hm : m ≤ 1000) (hs : s.data.toList = List.replicate m 10) (w : World) (hL : Laid w) :
    Calls Tryd.prog 13 #[.string s] w fun e w' => ∃ v, e = .returned (.tuple #[v, .int .i64 (if 400 < m then 1 else 0)]) ∧ Below w.heap.size w w' := by
  have hsz : s.size = m := by
    have h : s.data.toList.length = s.size := by simp
    rw [hs] at h
    simp at h
    omega
  have hc : Lib.countByte s.data.toList 10 = m := by
    unfold Lib.countByte
    rw [hs, List.count_replicate]
    simp
  by_cases h : 400 < m
  · rw [if_pos h]
    refine (split_limit s (.inr (by omega)) w).mono ?_
    rintro e w' ⟨rfl, rfl⟩
    exact ⟨_, rfl, Below.refl _ _⟩
  · rw [if_neg h]
    have hw : s.data.toList = List.replicate (m - 1) 10 ++ [10] := by
      rw [hs, ← List.replicate_succ']
      congr 1
      omega
    refine (split_ok s (by omega) (by omega) (whole_of hw) (by
      rw [hs]
      exact List.all_eq_true.2 (fun c hc => by rw [(List.mem_replicate.1 hc).2]; rfl)) w hL.sp).mono ?_
    rintro e w' ⟨v, rfl, _, hb⟩
    exact ⟨v, rfl, hb⟩

theorem textSz_nils (m : Nat) : textSz (List.replicate m []) = m := by
  induction m with
  | zero => rfl
  | succ m ih => rw [List.replicate_succ, textSz, ih]; unfold lineSz; simp; omega

theorem join_nils (p : Option Addr) (m cap : Nat) (hm : m ≤ 1000) (w : World) (h : LinesAt w (.slice p m cap) (List.replicate m [])) :
    Calls Tryd.prog 20 #[.slice p m cap] w fun e w' => ∃ x, e = .returned (.tuple #[.string x, .int .i64 (if 400 < m then 1 else 0)]) ∧ Below w.heap.size w w' := by
  by_cases h4 : 400 < m
  · rw [if_pos h4]
    refine (join_many p m cap h4 w).mono ?_
    rintro e w' ⟨rfl, rfl⟩
    exact ⟨_, rfl, Below.refl _ _⟩
  · rw [if_neg h4]
    refine (join_ok _ _ (by rw [List.length_replicate]; omega) (fun l hl => by rw [(List.mem_replicate.1 hl).2]; exact ⟨by simp, fun x hx => by simp at hx⟩) (by rw [textSz_nils]; omega) w h).mono ?_
    rintro e w' ⟨x, rfl, _, hb⟩
    exact ⟨x, rfl, hb⟩

theorem join_word (v : Value) (x : ByteArray) (k : Nat) (h1 : 1 ≤ k) (hk : k ≤ 1000000) (hx : x.data.toList = List.replicate k 97) (w : World) (h : LinesAt w v [[x]]) :
    Calls Tryd.prog 20 #[v] w fun e w' => ∃ y, e = .returned (.tuple #[.string y, .int .i64 (if 16384 < k + 1 then 1 else 0)]) ∧ Below w.heap.size w w' := by
  have hsz : x.size = k := by
    have h : x.data.toList.length = x.size := by simp
    rw [hx] at h
    simp at h
    omega
  have ht : textSz [[x]] = k + 1 := by
    simp only [textSz, lineSz, wsum]
    rw [if_neg (by simp)]
    omega
  have hok : ∀ l ∈ [[x]], l.length ≤ 1048576 ∧ ∀ y ∈ l, wordOk y = true ∧ y.size ≤ 9223372036854775807 := by
    intro l hl
    rw [List.mem_singleton] at hl
    subst hl
    refine ⟨by simp, fun y hy => ?_⟩
    rw [List.mem_singleton] at hy
    subst hy
    refine ⟨?_, by omega⟩
    unfold wordOk
    rw [hx, Bool.and_eq_true]
    exact ⟨List.all_eq_true.2 (fun c hc => by rw [(List.mem_replicate.1 hc).2]; rfl), decide_eq_true (by omega)⟩
  by_cases h4 : 16384 < k + 1
  · rw [if_pos h4]
    refine (join_big v _ (by simp) hok (by omega) (by omega) w h).mono ?_
    rintro e w' ⟨rfl, rfl⟩
    exact ⟨_, rfl, Below.refl _ _⟩
  · rw [if_neg h4]
    refine (join_ok v _ (by simp) hok (by omega) w h).mono ?_
    rintro e w' ⟨y, rfl, _, hb⟩
    exact ⟨y, rfl, hb⟩

theorem split_one (w : World) : Calls Tryd.prog 13 #[.string ⟨#[97]⟩] w fun e w' => e = .returned (.tuple #[.slice none 0 0, .int .i64 4]) ∧ w = w' :=
  split_form ⟨#[97]⟩ (by decide) (by decide) (.inl (by unfold wholeB; rw [isEmpty_data]; decide)) w

theorem repeat_any (c : UInt8) (n : Nat) (hn : n ≤ 1000000) (w : World) : Calls Tryd.prog 22 #[.string ⟨#[c]⟩, .int .i64 n] w fun e w' => ∃ x : ByteArray, e = .returned (.string x) ∧ x.data.toList = List.replicate n c ∧ Below w.heap.size w w' := by
  refine (Tryd.strings_Repeat ⟨#[c]⟩ n w (by omega) (by
    have : (⟨#[c]⟩ : ByteArray).size = 1 := rfl
    rw [this]; omega)).mono ?_
  rintro e w' ⟨rfl, hb⟩
  exact ⟨_, rfl, by rw [show (⟨#[c]⟩ : ByteArray).data.toList = [c] from rfl, rep_one], hb⟩

theorem nil_lines (w : World) (m : Nat) : LinesAt (w.alloc (.cells (madeCells #[.slice none 0 0] m) 25)) (.slice (some ⟨w.heap.size, 0, none⟩) m m) (List.replicate m []) := by
  refine ⟨some ⟨w.heap.size, 0, none⟩, m, by rw [List.length_replicate], fun _ => ⟨w.heap.size, 0, rfl, by simp, fun j l hj => ?_⟩⟩
  have hj2 : j < m := by simpa using (List.getElem?_eq_some_iff.1 hj).1
  have hl : l = [] := by
    rw [List.getElem?_replicate, if_pos hj2] at hj
    simpa using hj.symm
  subst hl
  have hr := (World.rowIs_made w (.slice none 0 0) m 25).cell hj2
  exact ⟨.slice none 0 0, by rw [Nat.zero_add]; exact hr, none, 0, rfl, Nat.le_refl _, fun h => by simp at h⟩

theorem word_line (w : World) (x : ByteArray) : LinesAt ((w.alloc (.cells #[.string x] 9)).alloc (.cells #[.slice (some ⟨w.heap.size, 0, none⟩) 1 1] 25)) (.slice (some ⟨w.heap.size + 1, 0, none⟩) 1 1) [[x]] := by
  refine ⟨some ⟨w.heap.size + 1, 0, none⟩, 1, rfl, fun _ => ⟨w.heap.size + 1, 0, rfl, by simp, fun j l hj => ?_⟩⟩
  match j, hj with
  | 0, hj =>
    obtain rfl : [x] = l := by simpa using hj
    refine ⟨.slice (some ⟨w.heap.size, 0, none⟩) 1 1, cell_last _ _ (by simp) _ _ _ _ rfl, ?_⟩
    exact built_words (ws := [x]) ((Below.heap_alloc _ _ _ (by simp)).trans (World.alloc_heap_new w _))
end Go.Proofs.YtkeohlebdnfcoaaDoor
