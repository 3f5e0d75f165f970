/- words.Join at lists with a word that is none. -/
import Derived.Test.YtainjdmgncicmaaDoorWF
import Derived.Test.YtainjdmgncicmaaDoorWK
namespace Go.Proofs.YtainjdmgncicmaaDoor
open Go.RowKit Go.Shelf

def allOk (ls : List (List ByteArray)) : Bool := ls.all fun l => l.all wordOk
theorem all_take_succ {α : Type} {f : α → Bool} {l : List α} {j : Nat} {x : α} (h : l[j]? = some x) : (l.take (j + 1)).all f = ((l.take j).all f && f x) := by
  rw [List.take_add_one, h]; simp

/-- A byte that no word has. -/
theorem wordOk_iff {x : ByteArray} : wordOk x = true ↔ x.data.toList.all wordByte = true ∧ 0 < x.size := by simp [wordOk]

set_option maxHeartbeats 2000000 in
set_option maxRecDepth 100000 in
theorem join_form (v : Value) (ls : List (List ByteArray)) (hN : ls.length ≤ 400) (hw : ∀ l ∈ ls, l.length ≤ 1048576 ∧ ∀ x ∈ l, x.size ≤ 9223372036854775807) (hbad : allOk ls = false) (hs2 : textSz ls ≤ 1152921504606846976) (w : World) (h : LinesAt w v ls) :
    Calls Tryd.prog 20 #[v] w fun e w' => e = .returned (.tuple #[.string ⟨#[]⟩, .int .i64 4]) ∧ w = w' := by
  have hlz : ∀ l ∈ ls, lineSz l ≤ 1152921504606846976 := by
    intro l hl
    obtain ⟨j, hj, rfl⟩ := List.getElem_of_mem hl
    have h1 := textSz_take_succ (List.getElem?_eq_getElem hj)
    have h2 := textSz_take_le ls (j + 1)
    omega
  obtain ⟨p, cap, rfl, h⟩ := h
  have hn : ¬ (400 : Int) < (ls.length : Int) := by omega
  have H := Lib.hid h
  have HW := Lib.hid hw
  have HZ := Lib.hid hlz
  have HBAD := Lib.hid hbad
  clear h hw hlz hbad
  go_enter Tryd.func20, Tryd.ntmps20
  go_wp2_with fail
  go_loop [4, 17] (fun s v => ∃ j : Nat, j ≤ ls.length ∧ v = .int .i64 j ∧ s = .int .i64 (textSz (ls.take j) : Nat) ∧ allOk (ls.take j) = true) (fun _ v => ls.length - (intOf v).toNat)
  case atStart => exact ⟨0, Nat.zero_le _, rfl, by simp [textSz], rfl⟩
  case round =>
    obtain ⟨j, hj, rfl, rfl, hao⟩ := hrel
    have HAO := Lib.hid hao
    clear hao
    by_cases hlt : j < ls.length
    · obtain ⟨b, o, rfl, hl, hcs⟩ := H.out (by omega)
      obtain ⟨l, hx⟩ : ∃ l, ls[j]? = some l := ⟨_, List.getElem?_eq_getElem hlt⟩
      have hmem := List.mem_of_getElem? hx
      obtain ⟨u, hcell, hu⟩ := hcs j l hx
      have hzl := HZ.out l hmem
      obtain ⟨hll, hwl⟩ := HW.out l hmem
      have hlsz := fun w h => lineSize_any u l (by omega) (by
        unfold lineSz at hzl
        split at hzl
        · rename_i e; rw [e]; simp [wsum]
        · omega) w h
      have HLS := Lib.hid (hlsz w hu)
      obtain ⟨p', cap', rfl, hc', hu'⟩ := hu
      have HU := Lib.hid hu'
      have HWL := Lib.hid hwl
      have h1 := textSz_take_succ hx
      have h2 := textSz_take_le ls (j + 1)
      have HS : Hid (textSz (ls.take (j + 1)) = textSz (ls.take j) + lineSz l) := h1
      have HA : Hid (allOk (ls.take (j + 1)) = (allOk (ls.take j) && l.all wordOk)) := all_take_succ hx
      rw [h1] at h2
      have hlt' : (j : Int) < (ls.length : Int) := by omega
      clear h1 hcs hlsz hu' hwl
      generalize textSz (ls.take j) = sj at *
      generalize lineSz l = zl at *
      generalize hnn : ls.length = nn at *
      go_wp2_with fail
      go_loop [23] (fun v => ∃ k : Nat, k ≤ l.length ∧ v = .int .i64 k ∧ (l.take k).all wordOk = true) (fun v => l.length - (intOf v).toNat)
      case atStart => exact ⟨0, Nat.zero_le _, rfl, rfl⟩
      case round =>
        obtain ⟨k, hk, rfl, hko⟩ := hrel
        have HKO := Lib.hid hko
        clear hko
        by_cases hkl : k < l.length
        · obtain ⟨b', o', rfl, hl', hcs'⟩ := HU.out (by omega)
          obtain ⟨x, hxk⟩ : ∃ x, l[k]? = some x := ⟨_, List.getElem?_eq_getElem hkl⟩
          have hcx := hcs' k x hxk
          have hxs := HWL.out x (List.mem_of_getElem? hxk)
          have HK1 : Hid ((l.take (k + 1)).all wordOk = ((l.take k).all wordOk && wordOk x)) := all_take_succ hxk
          have hwd := fun w => word_any x hxs w
          have hkl' : (k : Int) < (l.length : Int) := by omega
          clear hcs'
          by_cases hok : wordOk x = true
          · rw [show (x.data.toList.all wordByte && decide (0 < x.size)) = true from hok] at hwd
            have HK2 := Lib.hid (show (l.take (k + 1)).all wordOk = true by rw [HK1.out, HKO.out, hok]; rfl)
            clear HK1
            generalize hlk : l.length = kk at *
            go_wp2_with (go_at_call 38; (with_reducible refine (hwd _).mono ?_); rintro e w' ⟨rfl, hq⟩; cases hq.symm)
            go_round
            case rel => exact ⟨k + 1, by omega, by go_num, HK2.out⟩
            case measure => simp [intOf]; omega
          · rw [show (x.data.toList.all wordByte && decide (0 < x.size)) = false from Bool.not_eq_true _ ▸ hok] at hwd
            clear hok
            generalize hlk : l.length = kk at *
            go_wp2_with (go_at_call 38; (with_reducible refine (hwd _).mono ?_); rintro e w' ⟨rfl, hq⟩; cases hq.symm)
            go_ret2
            exact ⟨rfl, rfl⟩
        · obtain rfl : k = l.length := by omega
          have HA2 := Lib.hid (show allOk (ls.take (j + 1)) = true by
            have := HKO.out
            rw [List.take_length] at this
            rw [HA.out, HAO.out, this]; rfl)
          go_wp2_with (go_at_call 39; (with_reducible refine HLS.out.mono ?_); rintro e w' ⟨rfl, rfl⟩)
          go_round
          case rel => exact ⟨j + 1, by omega, by go_num, by rw [HS.out]; go_num, HA2.out⟩
          case measure => simp [intOf]; omega
    · obtain rfl : j = ls.length := by omega
      have := HAO.out
      rw [List.take_length, HBAD.out] at this
      cases this

/-! ### The reference's Join -/
set_option maxHeartbeats 2000000 in
set_option maxRecDepth 100000 in
theorem refJoin_many (p : Option Addr) (n cap : Nat) (hn : 400 < n) (w : World) :
    Calls Tryd.prog 21 #[.slice p n cap] w fun e w' => e = .returned (.tuple #[.string ⟨#[]⟩, .int .i64 1]) ∧ w = w' := by
  have hn' : (400 : Int) < (n : Int) := by omega
  go_enter Tryd.func21, Tryd.ntmps21
  go_wp2_with fail
  go_ret2
  exact ⟨rfl, rfl⟩

/-- What Join answers where it is not too much. -/
def joinR (ls : List (List ByteArray)) (e : Ending) : Prop :=
  if allOk ls then if textSz ls ≤ 16384 then ∃ x : ByteArray, e = .returned (.tuple #[.string x, .int .i64 0]) ∧ x.data.toList = allText ls else e = .returned (.tuple #[.string ⟨#[]⟩, .int .i64 1]) else e = .returned (.tuple #[.string ⟨#[]⟩, .int .i64 4])

set_option maxHeartbeats 2000000 in
set_option maxRecDepth 100000 in
theorem refJoin_any (v : Value) (ls : List (List ByteArray)) (hN : ls.length ≤ 400) (hw : ∀ l ∈ ls, l.length ≤ 1048576 ∧ ∀ x ∈ l, x.size ≤ 1048576) (hs2 : textSz ls ≤ 1099511627776) (w : World) (h : LinesAt w v ls) :
    Calls Tryd.prog 21 #[v] w fun e w' => joinR ls e ∧ Below w.heap.size w w' := by
  have hlz : ∀ l ∈ ls, lineSz l ≤ 1099511627776 := by
    intro l hl
    obtain ⟨j, hj, rfl⟩ := List.getElem_of_mem hl
    have h1 := textSz_take_succ (List.getElem?_eq_getElem hj)
    have h2 := textSz_take_le ls (j + 1)
    omega
  have HL := Lib.hid h
  obtain ⟨p, cap, rfl, h⟩ := h
  have hn : ¬ (400 : Int) < (ls.length : Int) := by omega
  have HW := Lib.hid hw
  have HZ := Lib.hid hlz
  clear h hw hlz
  go_enter Tryd.func21, Tryd.ntmps21
  go_wp2_with fail
  go_loopw [4, 15] (fun s v wr => ∃ (j : Nat) (x : ByteArray), j ≤ ls.length ∧ v = .int .i64 j ∧ s = .string x ∧ x.data.toList = allText (ls.take j) ∧ allOk (ls.take j) = true ∧ Below w.heap.size w wr) (fun _ v _ => ls.length - (intOf v).toNat)
  case atStart => exact ⟨0, _, Nat.zero_le _, rfl, rfl, rfl, rfl, Below.refl _ _⟩
  case round =>
    obtain ⟨j, s, hj, rfl, rfl, hst, hao, hbr⟩ := hrel
    have HAO := Lib.hid hao
    have hsz : s.size = textSz (ls.take j) := by
      rw [← allText_len, ← hst]; simp
    have hszl := textSz_take_le ls j
    rw [← hsz] at hszl
    have HST := Lib.hid hst
    have HSZ := Lib.hid hsz
    clear hao hst hsz
    by_cases hlt : j < ls.length
    · obtain ⟨p2, cap2, e2, hh⟩ := HL.out.below hbr
      cases e2
      obtain ⟨b, o, rfl, hl, hcs⟩ := hh (by omega)
      obtain ⟨l, hx⟩ : ∃ l, ls[j]? = some l := ⟨_, List.getElem?_eq_getElem hlt⟩
      have hmem := List.mem_of_getElem? hx
      obtain ⟨u, hcell, hu⟩ := hcs j l hx
      have hzl := HZ.out l hmem
      obtain ⟨hll, hwl⟩ := HW.out l hmem
      have hsj := sjoin_any u l wr hu (by omega) (by rw [lineText_len]; omega)
      have HSJ := Lib.hid hsj
      obtain ⟨p', cap', rfl, hc', hu'⟩ := hu
      have HU := Lib.hid hu'
      have HWL := Lib.hid hwl
      have HN := Lib.hid (allText_take_succ hx)
      have HA : Hid (allOk (ls.take (j + 1)) = (allOk (ls.take j) && l.all wordOk)) := all_take_succ hx
      have hlt' : (j : Int) < (ls.length : Int) := by omega
      have HBR := Lib.hid hbr
      clear hcs hu' hwl hsj hh hbr
      generalize hnn : ls.length = nn at *
      go_wp2_with fail
      go_loop [21] (fun v => ∃ k : Nat, k ≤ l.length ∧ v = .int .i64 k ∧ (l.take k).all wordOk = true) (fun v => l.length - (intOf v).toNat)
      case atStart => exact ⟨0, Nat.zero_le _, rfl, rfl⟩
      case round =>
        obtain ⟨k, hk, rfl, hko⟩ := hrel
        have HKO := Lib.hid hko
        clear hko
        by_cases hkl : k < l.length
        · obtain ⟨b', o', rfl, hl', hcs'⟩ := HU.out (by omega)
          obtain ⟨x, hxk⟩ : ∃ x, l[k]? = some x := ⟨_, List.getElem?_eq_getElem hkl⟩
          have hcx := hcs' k x hxk
          have hxs := HWL.out x (List.mem_of_getElem? hxk)
          have HK1 : Hid ((l.take (k + 1)).all wordOk = ((l.take k).all wordOk && wordOk x)) := all_take_succ hxk
          have hkl' : (k : Int) < (l.length : Int) := by omega
          have hlm := List.mem_of_getElem? hxk
          have HBADX : Hid (wordOk x = false → allOk ls = false) := fun h => by
            rw [← Bool.not_eq_true]
            intro ha
            have h1 := List.all_eq_true.1 ha l hmem
            have h2 := List.all_eq_true.1 h1 x hlm
            rw [h] at h2
            cases h2
          clear hcs' hlm
          by_cases hz : x.size = 0
          · have he : x.toList.isEmpty = true := by
              rw [isEmpty_data]
              have : x.data.toList.length = 0 := by simpa using hz
              rw [List.eq_nil_of_length_eq_zero this]; rfl
            have HR := Lib.hid (HBADX.out (by simp [wordOk, hz]))
            clear hz
            generalize hlk : l.length = kk at *
            go_wp2_with fail
            go_ret2
            exact ⟨by rw [joinR, if_neg (by rw [HR.out]; decide)]; rfl, HBR.out⟩
          · have he := nonempty hz
            clear hz
            generalize hlk : l.length = kk at *
            go_wp2_with fail
            go_loop [9] (fun v => ∃ m : Nat, m ≤ x.size ∧ v = .int .i64 m ∧ Upto wordByte x m) (fun v => x.size - (intOf v).toNat)
            case atStart => exact ⟨0, Nat.zero_le _, rfl, Upto.zero _ _⟩
            case round =>
              obtain ⟨m, hm, rfl, ho⟩ := hrel
              by_cases hlm : m < x.size
              · have hlm' : (m : Int) < (x.size : Int) := by omega
                by_cases hok : wordByte x[m] = true
                · have HNX := Lib.hid (ho.next hlm hok)
                  have hk2 := wordByte_iff.1 hok
                  clear ho hok
                  go_wp2_with fail
                  all_goals first
                    | exact ⟨⟨m + 1, by omega, by go_num, HNX.out⟩, by simp [intOf]; omega⟩
                    | (exfalso; omega)
                    | (exfalso; rename_i h9; simp at h9; omega)
                    | (exfalso; rename_i h9 _; simp at h9; omega)
                · have hk2 : ¬ ((32 < x[m].toNat ∧ x[m].toNat ≤ 126) ∧ x[m].toNat ≠ 35) := fun h => hok (wordByte_iff.2 h)
                  have HR := Lib.hid (HBADX.out (by
                    have := not_all hlm (show wordByte x[m] = false by simpa using hok)
                    rw [wordOk, this]; rfl))
                  clear ho hok
                  go_wp2_with fail
                  all_goals first
                    | (exfalso; omega)
                    | (go_ret2; exact ⟨by rw [joinR, if_neg (by rw [HR.out]; decide)]; rfl, HBR.out⟩)
                    | (exfalso; rename_i h9; simp at h9; omega)
              · obtain rfl : m = x.size := by omega
                have HK2 : Hid ((l.take (k + 1)).all wordOk = true) := by
                  have h1 := ho.all
                  have h2 : 0 < x.size := by
                    rcases Nat.eq_zero_or_pos x.size with h | h
                    · have : x.toList.isEmpty = true := by
                        rw [isEmpty_data]
                        have : x.data.toList.length = 0 := by simpa using h
                        rw [List.eq_nil_of_length_eq_zero this]; rfl
                      rw [he] at this; cases this
                    · exact h
                  exact HK1.out.trans (by rw [HKO.out, wordOk_iff.2 ⟨h1, h2⟩]; rfl)
                clear HK1 ho
                go_wp2_with fail
                go_round
                case rel => exact ⟨k + 1, by omega, by go_num, HK2.out⟩
                case measure => simp [intOf]; omega
        · obtain rfl : k = l.length := by omega
          have HA2 := Lib.hid (show allOk (ls.take (j + 1)) = true by
            have := HKO.out
            rw [List.take_length] at this
            rw [HA.out, HAO.out, this]; rfl)
          have hzl2 : (lineText l).length ≤ 1099511627776 := by rw [lineText_len]; exact hzl
          go_wp2_with (go_at_call 23; (with_reducible refine HSJ.out.mono ?_); rintro e w2 ⟨y, rfl, hyl, hb2⟩; have HYL := Lib.hid hyl; clear hyl; have hys : y.size ≤ 1099511627776 := (by have h3 : y.data.toList.length = y.size := (by simp); unfold lineText at hzl2; rw [List.length_append, ← HYL.out] at hzl2; omega))
          go_roundw
          case rel => exact ⟨j + 1, _, by omega, by go_num, rfl, by rw [HN.out]; simp [lineText, HST.out, HYL.out], HA2.out, HBR.out.trans (hb2.mono HBR.out.size)⟩
          case measure => simp [intOf]; omega
    · obtain rfl : j = ls.length := by omega
      have hA := HAO.out
      have hS := HSZ.out
      have hT := HST.out
      rw [List.take_length] at hA hS hT
      have HA := Lib.hid hA
      have HS := Lib.hid hS
      have HT := Lib.hid hT
      clear hA hS hT
      by_cases hbig : 16384 < s.size
      · have hb1 : (16384 : Int) < (s.size : Int) := by omega
        have HR := Lib.hid (show ¬ textSz ls ≤ 16384 by rw [← HS.out]; omega)
        go_wp2_with fail
        go_ret2
        exact ⟨by rw [joinR, if_pos HA.out, if_neg HR.out]; rfl, hbr⟩
      · have hb1 : ¬ (16384 : Int) < (s.size : Int) := by omega
        have HR := Lib.hid (show textSz ls ≤ 16384 by rw [← HS.out]; omega)
        go_wp2_with fail
        go_ret2
        exact ⟨by rw [joinR, if_pos HA.out, if_pos HR.out]; exact ⟨s, rfl, HT.out⟩, hbr⟩
end Go.Proofs.YtainjdmgncicmaaDoor
