/- words.Join where all is in form. -/
import Derived.Test.YtainjdmgncicmaaDoorWO
import Derived.Test.YtainjdmgncicmaaDoorWBuild
namespace Go.Proofs.YtainjdmgncicmaaDoor
open Go.RowKit Go.Shelf

/-- Words that can be read. -/
def WordsAt (W : World) (v : Value) (ws : List ByteArray) : Prop :=
  ∃ p cap, v = .slice p ws.length cap ∧ ws.length ≤ cap ∧ (0 < ws.length → ∃ b o, p = some ⟨b, o, none⟩ ∧ b < W.heap.size ∧ ∀ j x, ws[j]? = some x → W.cell? ⟨b, o + j, none⟩ = some (.string x))

/-- Lines of words that can be read. -/
def LinesAt (W : World) (v : Value) (ls : List (List ByteArray)) : Prop :=
  ∃ p cap, v = .slice p ls.length cap ∧ (0 < ls.length → ∃ b o, p = some ⟨b, o, none⟩ ∧ b < W.heap.size ∧ ∀ j l, ls[j]? = some l → ∃ u, W.cell? ⟨b, o + j, none⟩ = some u ∧ WordsAt W u l)

theorem WordsAt.below {W W' : World} {v : Value} {ws : List ByteArray} (hb : Below W.heap.size W W') (h : WordsAt W v ws) : WordsAt W' v ws := by
  obtain ⟨p, cap, e, hc, h⟩ := h
  refine ⟨p, cap, e, hc, fun h0 => ?_⟩
  obtain ⟨b, o, e2, hl, h⟩ := h h0
  exact ⟨b, o, e2, Nat.lt_of_lt_of_le hl hb.size, fun j x hj => (hb.cell (by exact hl)).trans (h j x hj)⟩
theorem LinesAt.below {W W' : World} {v : Value} {ls : List (List ByteArray)} (hb : Below W.heap.size W W') (h : LinesAt W v ls) : LinesAt W' v ls := by
  obtain ⟨p, cap, e, h⟩ := h
  refine ⟨p, cap, e, fun h0 => ?_⟩
  obtain ⟨b, o, e2, hl, h⟩ := h h0
  refine ⟨b, o, e2, Nat.lt_of_lt_of_le hl hb.size, fun j l hj => ?_⟩
  obtain ⟨u, h1, h2⟩ := h j l hj
  exact ⟨u, (hb.cell (by exact hl)).trans h1, h2.below hb⟩

theorem RowsAt.at {W : World} {lo : Nat} : ∀ {vs : List Value} {ls : List (List (List UInt8))}, RowsAt W lo vs ls → ∀ (j : Nat) l, ls[j]? = some l → ∃ u, vs[j]? = some u ∧ LineAt W lo u l
  | [], [], _, j, l, h => by simp at h
  | v :: vs, l0 :: ls, h, 0, l, hj => ⟨v, rfl, by
      have : l0 = l := by simpa using hj
      rw [← this]; exact h.1⟩
  | v :: vs, l0 :: ls, h, j + 1, l, hj => by
      obtain ⟨u, h1, h2⟩ := RowsAt.at h.2 j l (by simpa using hj)
      exact ⟨u, by simpa using h1, h2⟩
  | [], _ :: _, h, _, _, _ => h.elim
  | _ :: _, [], h, _, _, _ => h.elim

theorem LineAt.words {W : World} {lo : Nat} {v : Value} {ws : List (List UInt8)} (h : LineAt W lo v ws) : WordsAt W v (ws.map fun l => ⟨l.toArray⟩) := by
  obtain ⟨b, _, e, hb⟩ := h
  refine ⟨some ⟨b, 0, none⟩, ws.length, by rw [e, List.length_map], by simp, fun h0 => ⟨b, 0, rfl, (Array.getElem?_eq_some_iff.1 hb).1, fun j x hj => ?_⟩⟩
  simp only [World.cell?, Nat.zero_add]
  rw [hb]
  have hj2 : j < ws.length := by simpa using (List.getElem?_eq_some_iff.1 hj).1
  simp [List.getElem?_eq_getElem hj2] at hj ⊢
  exact hj

theorem TextAt.lines {W : World} {v : Value} {ls : List (List (List UInt8))} (h : TextAt W v ls) : LinesAt W v (ls.map fun ws => ws.map fun l => ⟨l.toArray⟩) := by
  obtain ⟨p, cap, vs, e, ⟨lo, hr⟩, hc⟩ := h
  refine ⟨p, cap, by rw [e, List.length_map], fun h0 => ?_⟩
  rw [List.length_map] at h0
  have hl := hr.len
  obtain ⟨x0, hx0⟩ : ∃ x0, vs[0]? = some x0 := ⟨_, List.getElem?_eq_getElem (by omega)⟩
  obtain ⟨b, hb, hcb⟩ := hc 0 x0 hx0
  obtain ⟨o, ho, _⟩ := cells_of_cell hcb
  refine ⟨b, 0, hb, (Array.getElem?_eq_some_iff.1 ho).1, fun j l hj => ?_⟩
  obtain ⟨l', hl', rfl⟩ : ∃ l', ls[j]? = some l' ∧ l'.map (fun l => (⟨l.toArray⟩ : ByteArray)) = l := by
    rw [List.getElem?_map] at hj
    cases e2 : ls[j]? with
    | none => rw [e2] at hj; cases hj
    | some l' => rw [e2] at hj; exact ⟨l', rfl, by simpa using hj⟩
  obtain ⟨u, hu, hlu⟩ := RowsAt.at hr j l' hl'
  obtain ⟨b', hb', hcb'⟩ := hc j u hu
  rw [hb] at hb'
  simp only [Option.some.injEq, Addr.mk.injEq] at hb'
  obtain ⟨rfl, _⟩ := hb'
  exact ⟨u, by rw [Nat.zero_add]; exact hcb', hlu.words⟩

/-- How many bytes a line has when it is written. -/
def wsum : List ByteArray → Nat
  | [] => 0
  | x :: l => x.size + 1 + wsum l
def lineSz (l : List ByteArray) : Nat := if l = [] then 1 else wsum l
def textSz : List (List ByteArray) → Nat
  | [] => 0
  | l :: ls => lineSz l + textSz ls

theorem wsum_take_succ {l : List ByteArray} {j : Nat} {x : ByteArray} (h : l[j]? = some x) : wsum (l.take (j + 1)) = wsum (l.take j) + (x.size + 1) := by
  induction l generalizing j with
  | nil => simp at h
  | cons y l ih =>
    cases j with
    | zero => simp at h; subst h; simp [wsum]
    | succ j =>
      have := ih (j := j) (by simpa using h)
      simp only [List.take_succ_cons, wsum, this]
      omega
theorem wsum_take_le (l : List ByteArray) (j : Nat) : wsum (l.take j) ≤ wsum l := by
  induction l generalizing j with
  | nil => simp [wsum]
  | cons y l ih =>
    cases j with
    | zero => simp [wsum]
    | succ j => have := ih j; simp only [List.take_succ_cons, wsum]; omega
theorem textSz_take_succ {ls : List (List ByteArray)} {j : Nat} {l : List ByteArray} (h : ls[j]? = some l) : textSz (ls.take (j + 1)) = textSz (ls.take j) + lineSz l := by
  induction ls generalizing j with
  | nil => simp at h
  | cons y ls ih =>
    cases j with
    | zero => simp at h; subst h; simp [textSz]
    | succ j =>
      have := ih (j := j) (by simpa using h)
      simp only [List.take_succ_cons, textSz, this]
      omega
theorem textSz_take_le (ls : List (List ByteArray)) (j : Nat) : textSz (ls.take j) ≤ textSz ls := by
  induction ls generalizing j with
  | nil => simp [textSz]
  | cons y ls ih =>
    cases j with
    | zero => simp [textSz]
    | succ j => have := ih j; simp only [List.take_succ_cons, textSz]; omega

def lineText (l : List ByteArray) : List UInt8 := Lib.join (l.map (·.data.toList)) [32] ++ [10]
def allText : List (List ByteArray) → List UInt8
  | [] => []
  | l :: ls => lineText l ++ allText ls
theorem allText_take_succ {ls : List (List ByteArray)} {j : Nat} {l : List ByteArray} (h : ls[j]? = some l) : allText (ls.take (j + 1)) = allText (ls.take j) ++ lineText l := by
  induction ls generalizing j with
  | nil => simp at h
  | cons y ls ih =>
    cases j with
    | zero => simp at h; subst h; simp [allText]
    | succ j =>
      have := ih (j := j) (by simpa using h)
      simp only [List.take_succ_cons, allText, this, List.append_assoc]

theorem joinTail_len (r : List ByteArray) : (Lib.joinTail [32] (r.map (·.data.toList))).length = wsum r := by
  induction r with
  | nil => rfl
  | cons x r ih =>
    unfold Lib.joinTail at ih ⊢
    simp only [List.map_cons, List.flatten_cons, List.length_append, List.length_cons, List.length_nil, wsum]
    rw [ih]
    have : x.data.toList.length = x.size := by simp
    omega
theorem lineText_len (l : List ByteArray) : (lineText l).length = lineSz l := by
  unfold lineText lineSz
  cases l with
  | nil => rfl
  | cons x r =>
    rw [List.map_cons, Lib.join_cons, if_neg (by simp), List.length_append, List.length_append, joinTail_len]
    have : x.data.toList.length = x.size := by simp
    simp only [wsum, List.length_cons, List.length_nil]
    omega
theorem allText_len (ls : List (List ByteArray)) : (allText ls).length = textSz ls := by
  induction ls with
  | nil => rfl
  | cons l ls ih => rw [allText, List.length_append, lineText_len, ih]; rfl

set_option maxHeartbeats 1000000 in
theorem lineSize_any (v : Value) (ws : List ByteArray) (hN : ws.length ≤ 4611686018427387904) (hs : wsum ws ≤ 4611686018427387904) (w : World) (h : WordsAt w v ws) :
    Calls Tryd.prog 39 #[v] w fun e w' => e = .returned (.int .i64 (lineSz ws : Nat)) ∧ w = w' := by
  obtain ⟨p, cap, rfl, hc, h⟩ := h
  by_cases h0 : ws.length = 0
  · have e : ws = [] := List.eq_nil_of_length_eq_zero h0
    subst e
    go_enter Tryd.func39, Tryd.ntmps39
    go_wp2
    go_ret
    exact ⟨rfl, rfl⟩
  · obtain ⟨b, o, rfl, hl, h⟩ := h (by omega)
    have hne : (((ws.length : Nat) : Int) == 0) = false := beq_eq_false_iff_ne.2 (by omega)
    have hlz : lineSz ws = wsum ws := by unfold lineSz; rw [if_neg (fun e => h0 (by rw [e]; rfl))]
    have H := Lib.hid h
    rw [hlz]
    clear h hlz
    go_enter Tryd.func39, Tryd.ntmps39
    go_wp2
    go_loop [3, 11] (fun s v => ∃ j : Nat, j ≤ ws.length ∧ v = .int .i64 j ∧ s = .int .i64 (wsum (ws.take j) : Nat)) (fun _ v => ws.length - (intOf v).toNat)
    case atStart => exact ⟨0, Nat.zero_le _, rfl, by simp [wsum]⟩
    case round =>
      obtain ⟨j, hj, rfl, rfl⟩ := hrel
      by_cases hlt : j < ws.length
      · obtain ⟨x, hx⟩ : ∃ x, ws[j]? = some x := ⟨_, List.getElem?_eq_getElem hlt⟩
        have hcell := H.out j x hx
        have h1 := wsum_take_succ hx
        have h2 := wsum_take_le ws (j + 1)
        have HS : Hid (wsum (ws.take (j + 1)) = wsum (ws.take j) + (x.size + 1)) := h1
        rw [h1] at h2
        clear h1
        generalize wsum (ws.take j) = sj at *
        generalize wsum ws = st at *
        have hlt' : (j : Int) < (ws.length : Int) := by omega
        generalize hnn : ws.length = nn at *
        go_wp2
        go_round
        case rel => exact ⟨j + 1, by omega, by go_num, by rw [HS.out]; go_num⟩
        case measure => simp [intOf]; omega
      · obtain rfl : j = ws.length := by omega
        rw [List.take_length]
        go_wp2
        go_ret
        exact ⟨rfl, rfl⟩
end Go.Proofs.YtainjdmgncicmaaDoor
