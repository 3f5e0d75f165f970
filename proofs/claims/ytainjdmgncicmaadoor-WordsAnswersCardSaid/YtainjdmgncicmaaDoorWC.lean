/- landaidlaw02.awake. -/
import Derived.Test.YtainjdmgncicmaaDoorWP
import Derived.Test.YtainjdmgncicmaaDoorWK
import Derived.Test.YtainjdmgncicmaaDoorWQ
import Derived.Test.YtainjdmgncicmaaDoorWB
namespace Go.Proofs.YtainjdmgncicmaaDoor
open Go.RowKit Go.Shelf

theorem below_drewN' {B : Nat} {w : World} (q : Nat) : Below B w (w.drewN q) := ⟨rfl, rfl, rfl, Nat.le_refl _, fun _ _ => rfl⟩

theorem itoa_minus_ten : Lib.itoa (-10) = [45, 49, 48] := by
  unfold Lib.itoa
  rw [if_pos (by decide)]
  have h1 : Lib.decDigits 1 = [49] := by rw [Lib.decDigits, dif_pos (by decide)]; rfl
  have h10 : Lib.decDigits 10 = [49, 48] := by
    rw [Lib.decDigits, dif_neg (by decide), show (10 / 10 : Nat) = 1 from rfl, h1]
    rfl
  rw [show (-10 : Int).natAbs = 10 from rfl, h10]

theorem no_007 : numR [48, 48, 55] 0 9 = .tuple #[.int .i64 0, .bool false] := by
  unfold numR
  rcases hv : Lib.atoiAll [48, 48, 55] with v | _ | _
  · simp only []
    rw [if_neg]
    rintro ⟨h1, _⟩
    have := itoa_zero h1
    cases this
  · rfl
  · rfl

def sEx : ByteArray := ⟨#[97, 32, 32, 98, 32, 35, 32, 99, 10, 10]⟩
theorem whole_ex : wholeB sEx = true := by
  unfold wholeB
  rw [isEmpty_data]
  decide
theorem split_ex (w : World) (hL : Laid w) : Calls Tryd.prog 13 #[.string sEx] w fun e w' => ∃ v, e = .returned (.tuple #[v, .int .i64 0]) ∧ LinesAt w' v [[⟨#[97]⟩, ⟨#[98]⟩], []] ∧ Below w.heap.size w w' := by
  refine (split_ok sEx (by decide) (by decide) whole_ex (by decide) w hL.sp).mono ?_
  rintro e w' ⟨v, rfl, ht, hb⟩
  refine ⟨v, rfl, ?_, hb⟩
  have h := ht.lines
  rw [show ((linesOf sEx.data.toList).map fun x => Lib.fields (codeOf x)) = [[[97], [98]], []] by decide] at h
  exact h

/-- A row of strings that was just built. -/
theorem built_words {W : World} {b : Nat} {ws : List ByteArray} (h : W.heap[b]? = some (.cells (ws.map Value.string).toArray 9 (0, 0))) : WordsAt W (.slice (some ⟨b, 0, none⟩) ws.length ws.length) ws := by
  refine ⟨some ⟨b, 0, none⟩, ws.length, rfl, Nat.le_refl _, fun h0 => ⟨b, 0, rfl, (Array.getElem?_eq_some_iff.1 h).1, fun j x hj => ?_⟩⟩
  simp only [World.cell?, Nat.zero_add]
  rw [h]
  have hj2 : j < ws.length := (List.getElem?_eq_some_iff.1 hj).1
  simp [List.getElem?_eq_getElem hj2] at hj ⊢
  exact hj

theorem one_line (w : World) (a b : ByteArray) : LinesAt ((w.alloc (.cells #[.string a, .string b] 9)).alloc (.cells #[.slice (some ⟨w.heap.size, 0, none⟩) 2 2] 25)) (.slice (some ⟨w.heap.size + 1, 0, none⟩) 1 1) [[a, b]] := by
  refine ⟨some ⟨w.heap.size + 1, 0, none⟩, 1, rfl, fun _ => ⟨w.heap.size + 1, 0, rfl, by simp, fun j l hj => ?_⟩⟩
  match j, hj with
  | 0, hj =>
    obtain rfl : [a, b] = l := by simpa using hj
    refine ⟨.slice (some ⟨w.heap.size, 0, none⟩) 2 2, by simp, ?_⟩
    exact built_words (ws := [a, b]) ((Below.heap_alloc _ _ _ (by simp)).trans (World.alloc_heap_new w _))

theorem cell_last (W : World) (k : Nat) (hk : W.heap.size = k) (cs : Array Value) (t : TypeId) (i : Nat) (v : Value) (h : cs[i]? = some v) : (W.alloc (.cells cs t)).cell? ⟨k, i, none⟩ = some v := by
  subst hk
  simp [h]

theorem two_lines (w : World) (a b : ByteArray) : LinesAt (((w.alloc (.cells #[.string a, .string b] 9)).alloc (.cells #[] 9)).alloc (.cells #[.slice (some ⟨w.heap.size, 0, none⟩) 2 2, .slice (some ⟨w.heap.size + 1, 0, none⟩) 0 0] 25)) (.slice (some ⟨w.heap.size + 1 + 1, 0, none⟩) 2 2) [[a, b], []] := by
  refine ⟨some ⟨w.heap.size + 1 + 1, 0, none⟩, 2, rfl, fun _ => ⟨w.heap.size + 1 + 1, 0, rfl, by simp, fun j l hj => ?_⟩⟩
  match j, hj with
  | 0, hj =>
    obtain rfl : [a, b] = l := by simpa using hj
    refine ⟨.slice (some ⟨w.heap.size, 0, none⟩) 2 2, cell_last _ _ (by simp) _ _ _ _ rfl, ?_⟩
    exact built_words (ws := [a, b]) (((Below.heap_alloc _ _ _ (by simp; omega)).trans (Below.heap_alloc _ _ _ (by simp))).trans (World.alloc_heap_new w _))
  | 1, hj =>
    obtain rfl : [] = l := by simpa using hj
    exact ⟨.slice (some ⟨w.heap.size + 1, 0, none⟩) 0 0, cell_last _ _ (by simp) _ _ _ _ rfl, some ⟨w.heap.size + 1, 0, none⟩, 0, rfl, Nat.le_refl _, fun h => by simp at h⟩

theorem join_ex (w : World) (v : Value) (h : LinesAt w v [[⟨#[120]⟩, ⟨#[55]⟩]]) : Calls Tryd.prog 20 #[v] w fun e w' => e = .returned (.tuple #[.string ⟨#[120, 32, 55, 10]⟩, .int .i64 0]) ∧ Below w.heap.size w w' := by
  refine (join_ok v _ (by decide) (by decide) (by decide) w h).mono ?_
  rintro e w' ⟨x, rfl, hx, hb⟩
  rw [show allText [[⟨#[120]⟩, ⟨#[55]⟩]] = [120, 32, 55, 10] by decide] at hx
  have hx2 : (⟨#[120, 32, 55, 10]⟩ : ByteArray) = x := (bytes_eq [120, 32, 55, 10] x).2 hx.symm
  rw [← hx2]
  exact ⟨rfl, hb⟩

set_option maxHeartbeats 1000000 in
set_option maxRecDepth 100000 in
theorem awake_any (w : World) (hL : Laid w) : Calls Tryd.prog 7 #[] w fun e w' => e = .returned (.bool true) ∧ Below w.heap.size w w' := by
  have hS := split_ex w hL
  unfold sEx at hS
  go_enter Tryd.func7, Tryd.ntmps7
  go_wp2_with fail
  refine hS.mono ?_
  rintro e w1 ⟨v, rfl, hv, hb1⟩
  have hL1 := hL.below hb1
  have hNum := number_any ⟨#[48, 48, 55]⟩ (by decide) 0 9 w1 hL1
  rw [show (⟨#[48, 48, 55]⟩ : ByteArray).data.toList = [48, 48, 55] from rfl, no_007] at hNum
  clear hS
  go_wp2_with fail
  refine hNum.mono ?_
  rintro e w2 ⟨rfl, hb2⟩
  have hL2 := hL1.below hb2
  have hv2 := hv.below hb2
  have hbe2 := hb1.trans (hb2.mono hb1.size)
  clear hNum hv hL1 hb1 hb2
  go_wp2_with fail
  have hJ := join_ex _ _ (one_line w2 ⟨#[120]⟩ ⟨#[55]⟩)
  have hb3 : Below w2.heap.size w2 ((w2.alloc (.cells #[.string ⟨#[120]⟩, .string ⟨#[55]⟩] 9)).alloc (.cells #[.slice (some ⟨w2.heap.size, 0, none⟩) 2 2] 25)) := ((Below.refl _ _).alloc (Nat.le_refl _) _).alloc (by simp) _
  refine hJ.mono ?_
  rintro e w3 ⟨rfl, hb4⟩
  have hb5 := hb3.trans (hb4.mono hb3.size)
  have hL3 := hL2.below hb5
  have hv3 := hv2.below hb5
  have hbe3 := hbe2.trans (hb5.mono hbe2.size)
  clear hJ hb3 hb4 hb5 hv2 hL2 hbe2
  have hname := flip' (name_any ⟨#[97, 55]⟩ (by decide))
  rw [show nameB ⟨#[97, 55]⟩ = true by decide] at hname
  have hdec := fun w h => decimal_any (-10) (by decide) (by decide) w h
  rw [itoa_minus_ten] at hdec
  have hb6 : Below w3.heap.size w3 (((w3.alloc (.cells #[.string ⟨#[97]⟩, .string ⟨#[98]⟩] 9)).alloc (.cells #[] 9)).alloc (.cells #[.slice (some ⟨w3.heap.size, 0, none⟩) 2 2, .slice (some ⟨w3.heap.size + 1, 0, none⟩) 0 0] 25)) :=
    (((Below.refl _ _).alloc (Nat.le_refl _) _).alloc (by simp) _).alloc (by simp; omega) _
  have hsame := same_true v _ _ (by decide) (by decide) _ (hv3.below hb6) (two_lines w3 ⟨#[97]⟩ ⟨#[98]⟩)
  go_wp2_with fail
  refine hsame.mono ?_
  rintro e w4 ⟨rfl, q, rfl⟩
  have hb7 := hb6.trans (show Below w3.heap.size _ _ from below_drewN' q)
  have hL4 := hL3.below hb7
  have hbe4 := hbe3.trans (hb7.mono hbe3.size)
  clear hsame hv3 hL3 hbe3 hb6 hb7
  generalize ((((w3.alloc (.cells #[.string ⟨#[97]⟩, .string ⟨#[98]⟩] 9)).alloc (.cells #[] 9)).alloc (.cells #[.slice (some ⟨w3.heap.size, 0, none⟩) 2 2, .slice (some ⟨w3.heap.size + 1, 0, none⟩) 0 0] 25)).drewN q) = w5 at *
  have hd := hdec w5 hL4
  go_wp2_with (first
    | (go_at_call 16; (with_reducible refine (hname _).mono ?_); rintro e w' ⟨rfl, rfl⟩)
    | (go_at_call 11; (with_reducible refine hd.mono ?_); rintro e w' ⟨rfl, hb8⟩))
  go_ret
  exact ⟨by simp, hbe4.trans (hb8.mono hbe4.size)⟩
end Go.Proofs.YtainjdmgncicmaaDoor
