/- words.Split and words.Join: what they refuse. -/
import Derived.Test.YtainjdmgncicmaaDoorWP
import Derived.Test.YtainjdmgncicmaaDoorWK
namespace Go.Proofs.YtainjdmgncicmaaDoor
open Go.RowKit Go.Shelf

set_option maxHeartbeats 1000000 in
set_option maxRecDepth 100000 in
theorem split_limit (s : ByteArray) (h : 16384 < s.size ∨ 400 < Lib.countByte s.data.toList 10) (w : World) :
    Calls Tryd.prog 13 #[.string s] w fun e w' => e = .returned (.tuple #[.slice none 0 0, .int .i64 1]) ∧ w = w' := by
  have hcount := same'' fun w => Tryd.strings_Count_one s 10 w
  generalize Lib.countByte s.data.toList 10 = nn at *
  by_cases h1 : 16384 < s.size
  · have h1' : (16384 : Int) < (s.size : Int) := by omega
    go_enter Tryd.func13, Tryd.ntmps13
    go_wp2_with fail
    go_ret2
    exact ⟨rfl, rfl⟩
  · have h1' : ¬ (16384 : Int) < (s.size : Int) := by omega
    have h2' : (400 : Int) < (nn : Int) := by omega
    go_enter Tryd.func13, Tryd.ntmps13
    go_wp2_with (go_at_call 26; (with_reducible refine (hcount _).mono ?_); rintro e w' ⟨rfl, rfl⟩)
    go_ret2
    exact ⟨rfl, rfl⟩

set_option maxHeartbeats 1000000 in
set_option maxRecDepth 100000 in
theorem split_form (s : ByteArray) (hs : s.size ≤ 16384) (hn : Lib.countByte s.data.toList 10 ≤ 400) (h : wholeB s = false ∨ s.data.toList.all okByte = false) (w : World) :
    Calls Tryd.prog 13 #[.string s] w fun e w' => e = .returned (.tuple #[.slice none 0 0, .int .i64 4]) ∧ w = w' := by
  have hcount := same'' fun w => Tryd.strings_Count_one s 10 w
  have hwhole := same'' fun w => whole_any s (by omega) w
  have hprint := same'' fun w => printable_any s (by omega) w
  have hs' : ¬ (16384 : Int) < (s.size : Int) := by omega
  generalize Lib.countByte s.data.toList 10 = nn at *
  have hn' : ¬ (400 : Int) < (nn : Int) := by omega
  generalize wholeB s = bw at *
  generalize s.data.toList.all okByte = bp at *
  cases bw
  · go_enter Tryd.func13, Tryd.ntmps13
    go_wp2_with (first
      | (go_at_call 26; (with_reducible refine (hcount _).mono ?_); rintro e w' ⟨rfl, rfl⟩)
      | (go_at_call 27; (with_reducible refine (hwhole _).mono ?_); rintro e w' ⟨rfl, rfl⟩))
    go_ret2
    exact ⟨rfl, rfl⟩
  · obtain rfl : bp = false := by simpa using h
    go_enter Tryd.func13, Tryd.ntmps13
    go_wp2_with (first
      | (go_at_call 26; (with_reducible refine (hcount _).mono ?_); rintro e w' ⟨rfl, rfl⟩)
      | (go_at_call 27; (with_reducible refine (hwhole _).mono ?_); rintro e w' ⟨rfl, rfl⟩)
      | (go_at_call 28; (with_reducible refine (hprint _).mono ?_); rintro e w' ⟨rfl, rfl⟩))
    go_ret2
    exact ⟨rfl, rfl⟩

set_option maxHeartbeats 400000 in
theorem join_many (p : Option Addr) (n cap : Nat) (hn : 400 < n) (w : World) :
    Calls Tryd.prog 20 #[.slice p n cap] w fun e w' => e = .returned (.tuple #[.string ⟨#[]⟩, .int .i64 1]) ∧ w = w' := by
  have hn' : (400 : Int) < (n : Int) := by omega
  go_enter Tryd.func20, Tryd.ntmps20
  go_wp2_with fail
  go_ret2
  exact ⟨rfl, rfl⟩

set_option maxHeartbeats 2000000 in
set_option maxRecDepth 100000 in
theorem join_big (v : Value) (ls : List (List ByteArray)) (hN : ls.length ≤ 400) (hw : ∀ l ∈ ls, l.length ≤ 1048576 ∧ ∀ x ∈ l, wordOk x = true ∧ x.size ≤ 9223372036854775807) (hs : 16384 < textSz ls) (hs2 : textSz ls ≤ 1152921504606846976) (w : World) (h : LinesAt w v ls) :
    Calls Tryd.prog 20 #[v] w fun e w' => e = .returned (.tuple #[.string ⟨#[]⟩, .int .i64 1]) ∧ w = w' := by
  have hlz : ∀ l ∈ ls, lineSz l ≤ 1152921504606846976 := by
    intro l hl
    obtain ⟨j, hj, rfl⟩ := List.getElem_of_mem hl
    have h1 := textSz_take_succ (List.getElem?_eq_getElem hj)
    have h2 := textSz_take_le ls (j + 1)
    omega
  obtain ⟨p, cap, rfl, h⟩ := h
  have hn : ¬ (400 : Int) < (ls.length : Int) := by omega
  have H := Lib.hid h
  have HW := Lib.hid hw
  have HZ := Lib.hid hlz
  clear h hw hlz
  go_enter Tryd.func20, Tryd.ntmps20
  go_wp2_with fail
  go_loop [4, 17] (fun s v => ∃ j : Nat, j ≤ ls.length ∧ v = .int .i64 j ∧ s = .int .i64 (textSz (ls.take j) : Nat)) (fun _ v => ls.length - (intOf v).toNat)
  case atStart => exact ⟨0, Nat.zero_le _, rfl, by simp [textSz]⟩
  case round =>
    obtain ⟨j, hj, rfl, rfl⟩ := hrel
    by_cases hlt : j < ls.length
    · obtain ⟨b, o, rfl, hl, hcs⟩ := H.out (by omega)
      obtain ⟨l, hx⟩ : ∃ l, ls[j]? = some l := ⟨_, List.getElem?_eq_getElem hlt⟩
      have hmem := List.mem_of_getElem? hx
      obtain ⟨u, hcell, hu⟩ := hcs j l hx
      have hzl := HZ.out l hmem
      obtain ⟨hll, hwl⟩ := HW.out l hmem
      have hlsz := fun w h => lineSize_any u l (by omega) (by
        unfold lineSz at hzl
        split at hzl
        · rename_i e; rw [e]; simp [wsum]
        · omega) w h
      have HLS := Lib.hid (hlsz w hu)
      obtain ⟨p', cap', rfl, hc', hu'⟩ := hu
      have HU := Lib.hid hu'
      have HWL := Lib.hid hwl
      have h1 := textSz_take_succ hx
      have h2 := textSz_take_le ls (j + 1)
      have HS : Hid (textSz (ls.take (j + 1)) = textSz (ls.take j) + lineSz l) := h1
      rw [h1] at h2
      have hlt' : (j : Int) < (ls.length : Int) := by omega
      clear h1 hcs hlsz hu' hwl
      generalize textSz (ls.take j) = sj at *
      generalize lineSz l = zl at *
      generalize hnn : ls.length = nn at *
      go_wp2_with fail
      go_loop [23] (fun v => ∃ k : Nat, k ≤ l.length ∧ v = .int .i64 k) (fun v => l.length - (intOf v).toNat)
      case atStart => exact ⟨0, Nat.zero_le _, rfl⟩
      case round =>
        obtain ⟨k, hk, rfl⟩ := hrel
        by_cases hkl : k < l.length
        · obtain ⟨b', o', rfl, hl', hcs'⟩ := HU.out (by omega)
          obtain ⟨x, hxk⟩ : ∃ x, l[k]? = some x := ⟨_, List.getElem?_eq_getElem hkl⟩
          have hcx := hcs' k x hxk
          obtain ⟨hok, hxs⟩ := HWL.out x (List.mem_of_getElem? hxk)
          have hwd := fun w => word_any x hxs w
          rw [show (x.data.toList.all wordByte && decide (0 < x.size)) = true from hok] at hwd
          have hkl' : (k : Int) < (l.length : Int) := by omega
          clear hcs'
          generalize hlk : l.length = kk at *
          go_wp2_with (go_at_call 38; (with_reducible refine (hwd _).mono ?_); rintro e w' ⟨rfl, hq⟩; cases hq.symm)
          go_round
          case rel => exact ⟨k + 1, by omega, by go_num⟩
          case measure => simp [intOf]; omega
        · obtain rfl : k = l.length := by omega
          go_wp2_with (go_at_call 39; (with_reducible refine HLS.out.mono ?_); rintro e w' ⟨rfl, rfl⟩)
          go_round
          case rel => exact ⟨j + 1, by omega, by go_num, by rw [HS.out]; go_num⟩
          case measure => simp [intOf]; omega
    · obtain rfl : j = ls.length := by omega
      have ht : (16384 : Int) < ((textSz ls : Nat) : Int) := by omega
      rw [List.take_length]
      go_wp2_with fail
      go_ret2
      exact ⟨rfl, rfl⟩
end Go.Proofs.YtainjdmgncicmaaDoor
