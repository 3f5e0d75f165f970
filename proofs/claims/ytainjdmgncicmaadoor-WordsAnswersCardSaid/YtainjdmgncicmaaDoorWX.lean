/- WordsBack: what lies in memory. -/
import Derived.Test.YtainjdmgncicmaaDoorWV
import Derived.Test.YtainjdmgncicmaaDoorWTape
import Derived.Test.YtainjdmgncicmaaDoorWQ
import Derived.Test.YtainjdmgncicmaaDoorWP
namespace Go.Proofs.YtainjdmgncicmaaDoor
open Go.RowKit Go.Shelf

/-- A line's words in a row of the law's own. -/
def WordOwn (W : World) (lo hi : Nat) (v : Value) (ws : List ByteArray) : Prop := W.ownsRow lo 9 1 v ws.length (ws.map Value.string) ∧ ∀ g, v.ownBlock = some g → g < hi

def RowsOwn (W : World) (lo hi : Nat) : List Value → List (List ByteArray) → Prop
  | [], [] => True
  | v :: vs, l :: ls => WordOwn W lo hi v l ∧ RowsOwn W lo hi vs ls
  | _, _ => False

theorem WordOwn.words {W : World} {lo hi : Nat} {v : Value} {ws : List ByteArray} (h : WordOwn W lo hi v ws) : WordsAt W v ws := by
  rcases h.1.2 with ⟨rfl, h0⟩ | ⟨g, cap, cur, rfl, _, hgb, hnc, _, hcs, hx⟩
  · have e : ws = [] := List.eq_nil_of_length_eq_zero h0
    subst e
    exact ⟨none, 0, rfl, Nat.le_refl _, fun h => by simp at h⟩
  · refine ⟨some ⟨g, 0, none⟩, cap, rfl, hnc, fun h0 => ⟨g, 0, rfl, (Array.getElem?_eq_some_iff.1 hgb).1, fun j x hj => ?_⟩⟩
    have hj2 : j < ws.length := (List.getElem?_eq_some_iff.1 hj).1
    have h3 : (ws.map Value.string)[j]? = some (.string x) := by rw [List.getElem?_map, hj]; rfl
    rw [← hx, List.getElem?_take_of_lt (by omega)] at h3
    simp only [World.cell?, Nat.zero_add]
    rw [hgb]
    simpa using h3

theorem WordOwn.kept {W W' : World} {lo hi : Nat} {v : Value} {ws : List ByteArray} {row : Option Nat} (h : WordOwn W lo hi v ws) (hg : W.grownBy W' row) (hr : ∀ r, row = some r → r < lo ∨ hi ≤ r ∨ ∀ cs, W.heap[r]? ≠ some (.cells cs 9 (0, 0))) : WordOwn W' lo hi v ws := by
  refine ⟨h.1.kept hg ?_, h.2⟩
  cases hv : v.ownBlock with
  | none => exact .inl rfl
  | some g =>
    refine .inr fun e => ?_
    have h1 := h.1.lt g hv
    have h2 := h.2 g hv
    obtain ⟨cur, hcur⟩ := own_block h.1 hv
    rcases hr g e.symm with h3 | h3 | h3
    · omega
    · omega
    · exact h3 cur hcur

theorem RowsOwn.kept {W W' : World} {lo hi : Nat} {row : Option Nat} (hg : W.grownBy W' row) (hr : ∀ r, row = some r → r < lo ∨ hi ≤ r ∨ ∀ cs, W.heap[r]? ≠ some (.cells cs 9 (0, 0))) : ∀ {vs : List Value} {ls : List (List ByteArray)}, RowsOwn W lo hi vs ls → RowsOwn W' lo hi vs ls
  | [], [], _ => trivial
  | _ :: _, _ :: _, h => ⟨h.1.kept hg hr, h.2.kept hg hr⟩
  | [], _ :: _, h => h.elim
  | _ :: _, [], h => h.elim

theorem RowsOwn.mono {W : World} {lo hi hi' : Nat} (hh : hi ≤ hi') : ∀ {vs : List Value} {ls : List (List ByteArray)}, RowsOwn W lo hi vs ls → RowsOwn W lo hi' vs ls
  | [], [], _ => trivial
  | _ :: _, _ :: _, h => ⟨⟨h.1.1, fun g e => Nat.lt_of_lt_of_le (h.1.2 g e) hh⟩, h.2.mono hh⟩
  | [], _ :: _, h => h.elim
  | _ :: _, [], h => h.elim

theorem RowsOwn.snoc {W : World} {lo hi : Nat} {v : Value} {l : List ByteArray} : ∀ {vs : List Value} {ls : List (List ByteArray)}, RowsOwn W lo hi vs ls → WordOwn W lo hi v l → RowsOwn W lo hi (vs ++ [v]) (ls ++ [l])
  | [], [], _, h => ⟨h, trivial⟩
  | _ :: _, _ :: _, h, g => ⟨h.1, h.2.snoc g⟩
  | [], _ :: _, h, _ => h.elim
  | _ :: _, [], h, _ => h.elim

theorem RowsOwn.at {W : World} {lo hi : Nat} : ∀ {vs : List Value} {ls : List (List ByteArray)}, RowsOwn W lo hi vs ls → ∀ (j : Nat) l, ls[j]? = some l → ∃ u, vs[j]? = some u ∧ WordOwn W lo hi u l
  | [], [], _, j, l, h => by simp at h
  | v :: vs, l0 :: ls, h, 0, l, hj => ⟨v, rfl, by
      have : l0 = l := by simpa using hj
      rw [← this]; exact h.1⟩
  | v :: vs, l0 :: ls, h, j + 1, l, hj => by
      obtain ⟨u, h1, h2⟩ := RowsOwn.at h.2 j l (by simpa using hj)
      exact ⟨u, by simpa using h1, h2⟩
  | [], _ :: _, h, _, _, _ => h.elim
  | _ :: _, [], h, _, _, _ => h.elim

/-- Between two lines, or within one: the lines so far, all below hi; the tape. -/
structure Back (W0 : World) (hi : Nat) (ls : List (List ByteArray)) (v4 : Value) (w : World) : Prop where
  below : Below W0.heap.size W0 w
  tape : Tape w W0.heap.size
  own : ∃ vs, w.ownsRow (W0.heap.size + 1) 25 1 v4 ls.length vs ∧ RowsOwn w (W0.heap.size + 1) hi vs ls
  low : W0.heap.size + 1 ≤ hi
  high : hi ≤ w.heap.size

theorem Back.step {W0 : World} {hi : Nat} {ls : List (List ByteArray)} {v4 : Value} {w w' : World} {row : Option Nat} (h : Back W0 hi ls v4 w) (hg : w.grownBy w' row) (ht : Tape w' W0.heap.size)
    (hr : ∀ r, row = some r → r = W0.heap.size ∨ hi ≤ r ∧ ∃ cs, w.heap[r]? = some (.cells cs 9 (0, 0))) : Back W0 hi ls v4 w' where
  below := h.below.grown hg h.below.size (fun r e => by
    have := h.low
    rcases hr r e with h1 | h1 <;> omega)
  tape := ht
  own := by
    obtain ⟨vs, h1, h2⟩ := h.own
    refine ⟨vs, h1.kept hg ?_, h2.kept hg (fun r e => by
      rcases hr r e with h3 | h3
      · exact .inl (by omega)
      · exact .inr (.inl h3.1))⟩
    cases hv : v4.ownBlock with
    | none => exact .inl rfl
    | some g =>
      refine .inr fun e => ?_
      have h3 := h1.lt g hv
      obtain ⟨cur, hcur⟩ := own_block h1 hv
      rcases hr g e.symm with h4 | ⟨_, cs, h4⟩
      · omega
      · rw [hcur] at h4
        simp at h4
  low := h.low
  high := Nat.le_trans h.high hg.size

theorem Tape.grown {w w' : World} {tb : Nat} {row : Option Nat} (h : Tape w tb) (hg : w.grownBy w' row) (hr : ∀ r, row = some r → tb + 1 ≤ r) : Tape w' tb :=
  h.keep ((Below.refl (tb + 1) w).grown hg (by have := h.lt; omega) hr) (by omega)

theorem Back.keep {W0 : World} {hi : Nat} {ls : List (List ByteArray)} {v4 : Value} {w w' : World} (h : Back W0 hi ls v4 w) (hb : Below w.heap.size w w') : Back W0 hi ls v4 w' := by
  have hg : w.grownBy w' none := ⟨hb.os, hb.tape, hb.output, hb.size, fun k hk _ => hb.block k hk⟩
  exact h.step hg (h.tape.grown hg (fun r e => by cases e)) (fun r e => by cases e)

/-- The words of the line at hand, in a row that begins at or beyond hi. -/
theorem own_keep {w w' : World} {lo : Nat} {v : Value} {n : Nat} {xs : List Value} (h : w.ownsRow lo 9 1 v n xs) (hb : Below w.heap.size w w') : w'.ownsRow lo 9 1 v n xs :=
  h.kept (row := none) ⟨hb.os, hb.tape, hb.output, hb.size, fun k hk _ => hb.block k hk⟩ (by
    cases v.ownBlock with
    | none => exact .inl rfl
    | some g => exact .inr (by simp))
theorem own_next {w w' : World} {lo tb : Nat} {v : Value} {n : Nat} {xs : List Value} (h : w.ownsRow lo 9 1 v n xs) (hg : w.grownBy w' (some tb)) (hlo : tb < lo) : w'.ownsRow lo 9 1 v n xs :=
  h.kept hg (by
    cases hv : v.ownBlock with
    | none => exact .inl rfl
    | some g =>
      refine .inr fun e => ?_
      have := h.lt g hv
      obtain rfl : g = tb := by simpa using e
      omega)

/-- A word more. -/
theorem Back.word {W0 : World} {hi : Nat} {ls : List (List ByteArray)} {v4 : Value} {w w5 : World} {v7 m' : Value} {n m : Nat} {xs ys : List Value} {O : Obj} (h : Back W0 hi ls v4 w) (h7 : w.ownsRow hi 9 1 v7 n xs)
    (ho : w5.ownsRow hi 9 1 m' m ys) (hg : (w.alloc O).grownBy w5 v7.ownBlock) : Back W0 hi ls v4 w5 := by
  have h1 := h.keep ((Below.refl _ _).alloc (Nat.le_refl _) O)
  have hr : ∀ r, v7.ownBlock = some r → hi ≤ r ∧ ∃ cs, (w.alloc O).heap[r]? = some (.cells cs 9 (0, 0)) := fun r e => by
    have h2 := (h7.alloc O).lt r e
    exact ⟨h2.1, own_block (h7.alloc O) e⟩
  refine h1.step hg (h1.tape.grown hg (fun r e => by have := (hr r e).1; have := h.low; omega)) (fun r e => .inr (hr r e))

/-- A line more. -/
theorem Back.line {W0 : World} {hi : Nat} {ls : List (List ByteArray)} {v4 v4' : Value} {w w5 : World} {v7 : Value} {l : List ByteArray} {vs : List Value} (h : Back W0 hi ls v4 w)
    (h4 : w.ownsRow (W0.heap.size + 1) 25 1 v4 ls.length vs) (hvs : RowsOwn w (W0.heap.size + 1) hi vs ls) (h7 : w.ownsRow hi 9 1 v7 l.length (l.map Value.string))
    (ho : w5.ownsRow (W0.heap.size + 1) 25 1 v4' (ls.length + 1) (vs ++ [v7])) (hg : (w.alloc (.cells #[v7] 25)).grownBy w5 v4.ownBlock) : Back W0 w5.heap.size (ls ++ [l]) v4' w5 ∧ WordOwn w5 (W0.heap.size + 1) w5.heap.size v7 l := by
  have hlow := h.low
  have hhigh := h.high
  have hr : ∀ r, v4.ownBlock = some r → W0.heap.size + 1 ≤ r ∧ ∀ cs, (w.alloc (.cells #[v7] 25)).heap[r]? ≠ some (.cells cs 9 (0, 0)) := fun r e => by
    have h2 := (h4.alloc (.cells #[v7] 25)).lt r e
    refine ⟨h2.1, fun cs hcs => ?_⟩
    obtain ⟨cur, hcur⟩ := own_block (h4.alloc (.cells #[v7] 25)) e
    rw [hcur] at hcs
    simp at hcs
  have hga : w.grownBy (w.alloc (.cells #[v7] 25)) none := World.grownBy_alloc w _ none
  have k1 := hvs.kept hga (fun r e => by cases e)
  have hw7 : WordOwn w (W0.heap.size + 1) w.heap.size v7 l := by
    refine ⟨?_, fun g e => (h7.lt g e).2⟩
    obtain ⟨a1, a2⟩ := h7
    refine ⟨a1, ?_⟩
    rcases a2 with a2 | ⟨g, cap, cur, e1, e2, e3⟩
    · exact .inl a2
    · exact .inr ⟨g, cap, cur, e1, by omega, e3⟩
  have k2 := hw7.kept hga (fun r e => by cases e)
  have hs5 : w.heap.size ≤ w5.heap.size := by
    have := hg.size
    rw [World.size_alloc] at this
    omega
  have k3 := k1.kept hg (fun r e => .inr (.inr (hr r e).2))
  have k4 := k2.kept hg (fun r e => .inr (.inr (hr r e).2))
  have hbw := ((Below.refl W0.heap.size w).alloc h.below.size (.cells #[v7] 25)).grown hg (by rw [World.size_alloc]; have := h.below.size; omega) (fun r e => by have := (hr r e).1; omega)
  have k5 : WordOwn w5 (W0.heap.size + 1) w5.heap.size v7 l := ⟨k4.1, fun g e => Nat.lt_of_lt_of_le (k4.2 g e) hs5⟩
  refine ⟨⟨h.below.trans hbw, ?_, ⟨vs ++ [v7], by rw [List.length_append]; exact ho, (k3.mono (by omega)).snoc k5⟩, by omega, Nat.le_refl _⟩, k5⟩
  exact (h.tape.grown hga (fun r e => by cases e)).grown hg (fun r e => (hr r e).1)

theorem WordOwn.below {W W' : World} {lo hi : Nat} {v : Value} {ws : List ByteArray} (h : WordOwn W lo hi v ws) (hb : Below W.heap.size W W') : WordOwn W' lo hi v ws :=
  h.kept (row := none) ⟨hb.os, hb.tape, hb.output, hb.size, fun k hk _ => hb.block k hk⟩ (fun r e => by cases e)

theorem Back.lines {W0 : World} {hi : Nat} {ls : List (List ByteArray)} {v4 : Value} {w : World} (h : Back W0 hi ls v4 w) : LinesAt w v4 ls := by
  obtain ⟨vs, h1, h2⟩ := h.own
  rcases h1.2 with ⟨rfl, h0⟩ | ⟨g, cap, cur, rfl, _, hgb, hnc, _, hcs, hx⟩
  · have e : ls = [] := List.eq_nil_of_length_eq_zero h0
    subst e
    exact ⟨none, 0, rfl, fun h => by simp at h⟩
  · refine ⟨some ⟨g, 0, none⟩, cap, rfl, fun h0 => ⟨g, 0, rfl, (Array.getElem?_eq_some_iff.1 hgb).1, fun j l hj => ?_⟩⟩
    obtain ⟨u, hu, hw⟩ := RowsOwn.at h2 j l hj
    refine ⟨u, ?_, hw.words⟩
    have hj2 : j < ls.length := (List.getElem?_eq_some_iff.1 hj).1
    rw [← hx, List.getElem?_take_of_lt (by omega)] at hu
    simp only [World.cell?, Nat.zero_add]
    rw [hgb]
    simpa using hu

/-- The five words. -/
theorem five (w : World) (y : Nat) (hy : y < 5) : ∃ x : ByteArray, (w.alloc (.cells #[.string ⟨#[97]⟩, .string ⟨#[98, 55]⟩, .string ⟨#[45, 51]⟩, .string ⟨#[40]⟩, .string ⟨#[120, 46, 121]⟩] 9)).cell? ⟨w.heap.size, y, none⟩ = some (.string x) ∧ wordOk x = true ∧ x.size ≤ 3 := by
  rcases (show y = 0 ∨ y = 1 ∨ y = 2 ∨ y = 3 ∨ y = 4 by omega) with rfl | rfl | rfl | rfl | rfl
  · exact ⟨⟨#[97]⟩, by simp, by decide, by decide⟩
  · exact ⟨⟨#[98, 55]⟩, by simp, by decide, by decide⟩
  · exact ⟨⟨#[45, 51]⟩, by simp, by decide, by decide⟩
  · exact ⟨⟨#[40]⟩, by simp, by decide, by decide⟩
  · exact ⟨⟨#[120, 46, 121]⟩, by simp, by decide, by decide⟩

/-- What may stand behind a line's words. -/
def Behind (x : ByteArray) : Prop := x.size ≤ 6 ∧ ∃ t cm, x.data.toList = t ++ cm ∧ (∀ c ∈ t, c = 32) ∧ (cm = [] ∨ ∃ r, cm = 35 :: r ∧ ∀ c ∈ r, c ≠ 10 ∧ okByte c = true)
theorem four (w : World) (y : Nat) (hy : y < 4) : ∃ x : ByteArray, (w.alloc (.cells #[.string ⟨#[]⟩, .string ⟨#[32]⟩, .string ⟨#[32, 35, 32, 97, 32, 98]⟩, .string ⟨#[35]⟩] 9)).cell? ⟨w.heap.size, y, none⟩ = some (.string x) ∧ Behind x := by
  rcases (show y = 0 ∨ y = 1 ∨ y = 2 ∨ y = 3 by omega) with rfl | rfl | rfl | rfl
  · exact ⟨⟨#[]⟩, by simp, by decide, [], [], rfl, by simp, .inl rfl⟩
  · exact ⟨⟨#[32]⟩, by simp, by decide, [32], [], rfl, by simp, .inl rfl⟩
  · exact ⟨⟨#[32, 35, 32, 97, 32, 98]⟩, by simp, by decide, [32], [35, 32, 97, 32, 98], rfl, by simp, .inr ⟨[32, 97, 32, 98], rfl, by decide⟩⟩
  · exact ⟨⟨#[35]⟩, by simp, by decide, [], [35], rfl, by simp, .inr ⟨[], rfl, by simp⟩⟩

theorem cell_grown {w w' : World} {tb b j : Nat} {v : Value} (h : w.cell? ⟨b, j, none⟩ = some v) (hg : w.grownBy w' (some tb)) (hb : b < w.heap.size) (hne : b ≠ tb) : w'.cell? ⟨b, j, none⟩ = some v := by
  rw [← h]
  exact World.cell?_of_block (w := w) (hg.block b hb (by simp; omega))
end Go.Proofs.YtainjdmgncicmaaDoor
