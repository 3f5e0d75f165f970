/- words.Join where all is in form: the walk. -/
import Derived.Test.YtainjdmgncicmaaDoorWJ
namespace Go.Proofs.YtainjdmgncicmaaDoor
open Go.RowKit Go.Shelf

/-- A word that may be written. -/
def wordOk (x : ByteArray) : Bool := x.data.toList.all wordByte && decide (0 < x.size)

theorem builder_below {B b : Nat} {bs : List Value} {w w' : World} (hb : Below w.heap.size w w') (h : Lib.IsBuilder 70 5 B b bs w) : Lib.IsBuilder 70 5 B b bs w' := by
  have hg : w.grownBy w' none := ⟨hb.os, hb.tape, hb.output, hb.size, fun k hk _ => hb.block k hk⟩
  rcases h with ⟨h1, v, h2, h3, h4⟩ | ⟨h1, v, h2, h3, h4⟩
  · refine .inl ⟨h1, v, (hb.block b (Array.getElem?_eq_some_iff.1 h2).1).trans h2, h3.kept hg ?_, h4⟩
    cases hv : v.ownBlock with
    | none => exact .inl rfl
    | some g => exact .inr (by simp)
  · refine .inr ⟨h1, v, (hb.block b (Array.getElem?_eq_some_iff.1 h2).1).trans h2, h3.kept hg ?_, h4⟩
    cases hv : v.ownBlock with
    | none => exact .inl rfl
    | some g => exact .inr (by simp)

theorem byteCells_append (a b : List UInt8) : Lib.byteCells (a ++ b) = Lib.byteCells a ++ Lib.byteCells b := by simp [Lib.byteCells]

/-- strings.Join at words that can be read. -/
theorem sjoin_any (v : Value) (ws : List ByteArray) (w : World) (h : WordsAt w v ws) (hN : ws.length ≤ 140737488355328) (hs : (lineText ws).length ≤ 140737488355328) :
    Calls Tryd.prog 23 #[v, .string ⟨#[32]⟩] w fun e w' => ∃ x : ByteArray, e = .returned (.string x) ∧ x.data.toList = Lib.join (ws.map (·.data.toList)) [32] ∧ Below w.heap.size w w' := by
  obtain ⟨p, cap, rfl, hc, h⟩ := h
  by_cases h0 : ws.length = 0
  · have e : ws = [] := List.eq_nil_of_length_eq_zero h0
    subst e
    refine (Tryd.strings_Join_none p cap ⟨#[32]⟩ w).mono ?_
    rintro e w' ⟨rfl, rfl⟩
    exact ⟨_, rfl, rfl, Below.refl _ _⟩
  · obtain ⟨b, o, rfl, hl, h⟩ := h (by omega)
    unfold lineText at hs
    rw [List.length_append] at hs
    refine (Tryd.strings_Join b o cap ws ⟨#[32]⟩ w h hl hN hc (by
      have e : (⟨#[32]⟩ : ByteArray).data.toList = [32] := rfl
      rw [e]; omega)).mono ?_
    rintro e w' ⟨rfl, hb⟩
    exact ⟨_, rfl, by simp, hb⟩

set_option maxHeartbeats 2000000 in
set_option maxRecDepth 100000 in
theorem join_ok (v : Value) (ls : List (List ByteArray)) (hN : ls.length ≤ 400) (hw : ∀ l ∈ ls, l.length ≤ 1048576 ∧ ∀ x ∈ l, wordOk x = true ∧ x.size ≤ 9223372036854775807) (hs : textSz ls ≤ 16384) (w : World) (h : LinesAt w v ls) :
    Calls Tryd.prog 20 #[v] w fun e w' => ∃ x : ByteArray, e = .returned (.tuple #[.string x, .int .i64 0]) ∧ x.data.toList = allText ls ∧ Below w.heap.size w w' := by
  have hlz : ∀ l ∈ ls, lineSz l ≤ 16384 := by
    intro l hl
    obtain ⟨j, hj, rfl⟩ := List.getElem_of_mem hl
    have h1 := textSz_take_succ (List.getElem?_eq_getElem hj)
    have h2 := textSz_take_le ls (j + 1)
    omega
  have HL := Lib.hid h
  obtain ⟨p, cap, rfl, h⟩ := h
  have hn : ¬ (400 : Int) < (ls.length : Int) := by omega
  have H := Lib.hid h
  have HW := Lib.hid hw
  have HZ := Lib.hid hlz
  clear h hw hlz
  go_enter Tryd.func20, Tryd.ntmps20
  go_wp2_with fail
  go_loop [4, 17] (fun s v => ∃ j : Nat, j ≤ ls.length ∧ v = .int .i64 j ∧ s = .int .i64 (textSz (ls.take j) : Nat)) (fun _ v => ls.length - (intOf v).toNat)
  case atStart => exact ⟨0, Nat.zero_le _, rfl, by simp [textSz]⟩
  case round =>
    obtain ⟨j, hj, rfl, rfl⟩ := hrel
    by_cases hlt : j < ls.length
    · obtain ⟨b, o, rfl, hl, hcs⟩ := H.out (by omega)
      obtain ⟨l, hx⟩ : ∃ l, ls[j]? = some l := ⟨_, List.getElem?_eq_getElem hlt⟩
      have hmem := List.mem_of_getElem? hx
      obtain ⟨u, hcell, hu⟩ := hcs j l hx
      have hzl := HZ.out l hmem
      obtain ⟨hll, hwl⟩ := HW.out l hmem
      have hlsz := fun w h => lineSize_any u l (by omega) (by
        unfold lineSz at hzl
        split at hzl
        · rename_i e; rw [e]; simp [wsum]
        · omega) w h
      have HLS := Lib.hid (hlsz w hu)
      obtain ⟨p', cap', rfl, hc', hu'⟩ := hu
      have HU := Lib.hid hu'
      have HWL := Lib.hid hwl
      have h1 := textSz_take_succ hx
      have h2 := textSz_take_le ls (j + 1)
      have HS : Hid (textSz (ls.take (j + 1)) = textSz (ls.take j) + lineSz l) := h1
      rw [h1] at h2
      have hlt' : (j : Int) < (ls.length : Int) := by omega
      clear h1 hcs hlsz hu' hwl
      generalize textSz (ls.take j) = sj at *
      generalize lineSz l = zl at *
      generalize hnn : ls.length = nn at *
      go_wp2_with fail
      go_loop [23] (fun v => ∃ k : Nat, k ≤ l.length ∧ v = .int .i64 k) (fun v => l.length - (intOf v).toNat)
      case atStart => exact ⟨0, Nat.zero_le _, rfl⟩
      case round =>
        obtain ⟨k, hk, rfl⟩ := hrel
        by_cases hkl : k < l.length
        · obtain ⟨b', o', rfl, hl', hcs'⟩ := HU.out (by omega)
          obtain ⟨x, hxk⟩ : ∃ x, l[k]? = some x := ⟨_, List.getElem?_eq_getElem hkl⟩
          have hcx := hcs' k x hxk
          obtain ⟨hok, hxs⟩ := HWL.out x (List.mem_of_getElem? hxk)
          have hwd := fun w => word_any x hxs w
          rw [show (x.data.toList.all wordByte && decide (0 < x.size)) = true from hok] at hwd
          have hkl' : (k : Int) < (l.length : Int) := by omega
          clear hcs'
          generalize hlk : l.length = kk at *
          go_wp2_with (go_at_call 38; (with_reducible refine (hwd _).mono ?_); rintro e w' ⟨rfl, hq⟩; cases hq.symm)
          go_round
          case rel => exact ⟨k + 1, by omega, by go_num⟩
          case measure => simp [intOf]; omega
        · obtain rfl : k = l.length := by omega
          go_wp2_with (go_at_call 39; (with_reducible refine HLS.out.mono ?_); rintro e w' ⟨rfl, rfl⟩)
          go_round
          case rel => exact ⟨j + 1, by omega, by go_num, by rw [HS.out]; go_num⟩
          case measure => simp [intOf]; omega
    · obtain rfl : j = ls.length := by omega
      have ht : ¬ (16384 : Int) < ((textSz ls : Nat) : Int) := by omega
      rw [List.take_length]
      go_wp2_with fail
      have hB0 : Lib.IsBuilder 70 5 w.heap.size w.heap.size (Lib.byteCells (allText (ls.take 0))) (w.alloc (.cells #[.pointer none, .slice none 0 0] 70)) :=
        .inl ⟨Nat.le_refl _, .slice none 0 0, World.alloc_heap_new _ _, World.ownsRow_nil _ _ _ _, by simp [Value.ownBlock]⟩
      have hb0 : Below w.heap.size w (w.alloc (.cells #[.pointer none, .slice none 0 0] 70)) := (Below.refl _ w).alloc (Nat.le_refl _) _
      have hz0 : w.heap.size < (w.alloc (.cells #[.pointer none, .slice none 0 0] 70)).heap.size := by simp
      generalize w.alloc (.cells #[.pointer none, .slice none 0 0] 70) = w1 at *
      clear H
      go_loopw [40] (fun v wr => ∃ i : Nat, i ≤ ls.length ∧ v = .int .i64 i ∧ Lib.IsBuilder 70 5 w.heap.size w.heap.size (Lib.byteCells (allText (ls.take i))) wr ∧ Below w.heap.size w wr) (fun v _ => ls.length - (intOf v).toNat)
      case atStart => exact ⟨0, Nat.zero_le _, rfl, hB0, hb0⟩
      case round =>
        clear hB0 hb0
        obtain ⟨i, hi, rfl, hBr, hbr⟩ := hrel
        by_cases hil : i < ls.length
        · obtain ⟨l, hx⟩ : ∃ l, ls[i]? = some l := ⟨_, List.getElem?_eq_getElem hil⟩
          have hmem := List.mem_of_getElem? hx
          obtain ⟨p', cap', e', hh⟩ := HL.out.below hbr
          obtain ⟨b, o, rfl, hl, hcs⟩ := hh (by simp at e'; omega)
          cases e'
          obtain ⟨u, hcell, hu⟩ := hcs i l hx
          have hll := (HW.out l hmem).1
          have hzl := HZ.out l hmem
          have hsj := sjoin_any u l wr hu (by omega) (by rw [lineText_len]; omega)
          have hnx := allText_take_succ hx
          have hlen : (Lib.byteCells (allText (ls.take i))).length ≤ 16384 := by
            rw [Lib.byteCells_length, allText_len]
            exact Nat.le_trans (textSz_take_le ls i) hs
          have hll2 : (lineText l).length ≤ 16384 := by rw [lineText_len]; exact hzl
          have hbsz := hbr.size
          have hil' : (i : Int) < (ls.length : Int) := by omega
          have HN := Lib.hid hnx
          have HB := Lib.hid hBr
          have HS := Lib.hid hsj
          have HBE := Lib.hid hbr
          obtain ⟨pu, cu, rfl, _, _⟩ := hu
          clear hcs hh hnx hBr hsj hbr
          generalize hat : allText (ls.take i) = at0 at *
          go_wp2_with fail
          refine HS.out.mono ?_
          rintro e w2 ⟨x, rfl, hxl, hb2⟩
          have hB2 := builder_below hb2 HB.out
          have hx2 : x.size ≤ 16384 := by
            have h3 : x.data.toList.length = x.size := by simp
            unfold lineText at hll2
            rw [List.length_append, ← hxl] at hll2
            omega
          have hWS := writeString_any w.heap.size w.heap.size _ x w2 hB2 (by omega) (by have := hb2.size; omega)
          have HWS := Lib.hid hWS
          have hbe2 := HBE.out.trans (hb2.mono hbsz)
          clear hWS hB2 HB HS
          go_wp2_with fail
          refine HWS.out.mono ?_
          rintro e w3 ⟨rfl, hB3, hb3⟩
          have hlen3 : (Lib.byteCells at0 ++ Lib.byteCells x.data.toList).length + 1 ≤ 140737488355328 := by
            rw [List.length_append, Lib.byteCells_length x.data.toList]
            have h3 : x.data.toList.length = x.size := by simp
            omega
          have hbe3 := hbe2.trans hb3
          have hWB := writeByte_any w.heap.size w.heap.size _ 10 w3 (.inr hB3) hlen3 hbe3.size
          have HWB := Lib.hid hWB
          clear hWB hB3 HWS
          go_wp2_with fail
          refine HWB.out.mono ?_
          rintro e w4 ⟨rfl, hB4, hb4⟩
          have hbe4 := hbe3.trans hb4
          have hB5 : Lib.IsBuilder 70 5 w.heap.size w.heap.size (Lib.byteCells (allText (ls.take (i + 1)))) w4 := by
            rw [HN.out]
            unfold lineText
            rw [← hxl, byteCells_append, byteCells_append, ← List.append_assoc]
            exact .inr hB4
          have HB5 := Lib.hid hB5
          clear hB4 hB5 HWB HN
          go_wp2_with fail
          go_roundw
          case rel => exact ⟨i + 1, by omega, by go_num, HB5.out, hbe4⟩
          case measure => simp [intOf]; omega
        · obtain rfl : i = ls.length := by omega
          rw [List.take_length] at hBr
          have hSt := Tryd.Builder_String_any w.heap.size w.heap.size (allText ls) wr hBr hbr.size
          have HST := Lib.hid hSt
          clear hSt hBr
          go_wp2_with fail
          refine HST.out.mono ?_
          rintro e w2 ⟨rfl, hb2⟩
          go_wp2_with fail
          go_ret2
          exact ⟨_, rfl, by simp, hbr.trans hb2⟩
end Go.Proofs.YtainjdmgncicmaaDoor
