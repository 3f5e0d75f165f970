/- WordsAnswers: the walk. -/
import Derived.Test.YtainjdmgncicmaaDoorWAnsA
import Derived.Test.YtainjdmgncicmaaDoorWB
import Derived.Test.YtainjdmgncicmaaDoorWRefN
import Derived.Deep.RegionHeld3
namespace Go.Proofs.YtainjdmgncicmaaDoor
open Go.RowKit Go.Shelf

def smallL (l : List ByteArray) : Bool := decide (l.length ≤ 20) && l.all fun x => decide (x.size ≤ 50)
theorem smallL_iff {l : List ByteArray} : smallL l = true ↔ l.length ≤ 20 ∧ ∀ x ∈ l, x.size ≤ 50 := by
  simp [smallL, List.all_eq_true]

theorem nat_of' {x : Int} {n : Int} (h : InMod x n) (hn : 1 ≤ n) : ∃ k : Nat, x = (k : Int) ∧ (k : Int) < n := by
  obtain ⟨h0, h1, _⟩ := h
  exact ⟨x.toNat, by omega, by have := h1 hn; omega⟩

/-- The bytes that are turned: a row of the law's own, behind the tape. -/
structure Bts (W0 W : World) (m : Nat) (xs : List Int) : Prop where
  below : Below W0.heap.size W0 W
  tape : Tape W W0.heap.size
  len : xs.length = m
  cells : ∀ j, j < m → W.cell? ⟨W0.heap.size + 1, j, none⟩ = some (.int .u8 (xs.getD j 0)) ∧ W.frozen? ⟨W0.heap.size + 1, j, none⟩ = false
  big : W0.heap.size + 1 < W.heap.size

theorem Bts.start {W0 w1 : World} {s : ByteArray} (hb : Below W0.heap.size W0 w1) (ht : Tape w1 W0.heap.size) (hz : w1.heap.size = W0.heap.size + 1) : Bts W0 (Lib.bytesWorld w1 5 s) s.size (s.data.toList.map fun c => (c.toNat : Int)) := by
  have hbw : Below w1.heap.size w1 (Lib.bytesWorld w1 5 s) := Lib.bytesWorld_below w1 5 s
  refine ⟨hb.trans (hbw.mono (by omega)), ht.keep hbw (by omega), by simp, fun j hj => ?_, by rw [Lib.bytesWorld_size]; omega⟩
  rw [← hz]
  refine ⟨?_, ?_⟩
  · rw [Lib.bytesWorld_cell w1 5 s j hj]
    simp [List.getD_eq_getElem?_getD, hj]
  · simp only [World.frozen?, Lib.bytesWorld_at_new]
    simp [Lib.bytesCells]
    omega

theorem Bts.next {W0 w w' : World} {m : Nat} {xs : List Int} (h : Bts W0 w m xs) (hg : w.grownBy w' (some W0.heap.size)) (ht : Tape w' W0.heap.size) : Bts W0 w' m xs := by
  have hbl : w'.heap[W0.heap.size + 1]? = w.heap[W0.heap.size + 1]? := hg.block _ h.big (by simp)
  refine ⟨h.below.grown hg h.below.size (fun r e => by simp at e; omega), ht, h.len, fun j hj => ?_, Nat.lt_of_lt_of_le h.big hg.size⟩
  have h1 := h.cells j hj
  simp only [World.cell?, World.frozen?] at h1 ⊢
  rw [hbl]
  exact h1

theorem Bts.store {W0 w : World} {m : Nat} {xs : List Int} (h : Bts W0 w m xs) {j : Nat} (hj : j < m) (z : Int) : Bts W0 (w.setCell ⟨W0.heap.size + 1, j, none⟩ (.int .u8 z)) m (xs.set j z) where
  below := h.below.setCell (by show W0.heap.size ≤ W0.heap.size + 1; omega) _
  tape := h.tape.keep (Below.setCell (Below.refl (W0.heap.size + 1) w) (Nat.le_refl _) _) (by omega)
  len := by rw [List.length_set]; exact h.len
  cells := fun i hi => by
    refine ⟨?_, by rw [World.frozen?_setCell]; exact (h.cells i hi).2⟩
    by_cases e : i = j
    · subst e
      rw [World.cell?_setCell_same' _ _ _ (by rw [(h.cells i hi).1]; rfl)]
      have := h.len
      simp [List.getD_eq_getElem?_getD, this, hi]
    · rw [World.cell?_setCell_other _ _ _ _ (by intro h9; simp only [Addr.mk.injEq] at h9; omega), (h.cells i hi).1]
      simp [List.getD_eq_getElem?_getD, List.getElem?_set, Ne.symm e]
  big := by simpa using h.big

/-- The bytes can be read. -/
def BC (W0 w : World) (m : Nat) (xs : List Int) : Prop := ∀ i, i < m → w.cell? ⟨W0.heap.size + 1, 0 + i, none⟩ = some (.int .u8 (xs.getD i 0))
theorem below_step2 {w w1 w2 : World} (h : Below w.heap.size w w1) (h2 : Below w1.heap.size w1 w2) : Below w.heap.size w w2 := h.trans (h2.mono h.size)
theorem BC.keep {W0 w w' : World} {m : Nat} {xs : List Int} (_hb0 : Below W0.heap.size W0 w) (h : BC W0 w m xs) (hb : Below w.heap.size w w') : BC W0 w' m xs := fun i hi => by
  rw [hb.cell (p := ⟨W0.heap.size + 1, 0 + i, none⟩) (World.block_lt_of_cell? _ _ (h i hi))]
  exact h i hi
theorem BC.alloc {W0 w : World} {m : Nat} {xs : List Int} (h : BC W0 w m xs) (_h : 0 = 0) (o : Obj) : BC W0 (w.alloc o) m xs := fun i hi => by
  rw [((Below.refl w.heap.size w).alloc (Nat.le_refl _) o).cell (p := ⟨W0.heap.size + 1, 0 + i, none⟩) (World.block_lt_of_cell? _ _ (h i hi))]
  exact h i hi

theorem fieldsGo_len : ∀ (l cur : List UInt8), (Lib.fieldsGo cur l).length ≤ l.length + 1 := by
  intro l
  induction l with
  | nil => intro cur; unfold Lib.fieldsGo; split <;> simp
  | cons c r ih =>
    intro cur
    unfold Lib.fieldsGo
    have h1 := ih []
    have h2 := ih (cur ++ [c])
    simp only [List.length_cons]
    split
    · split
      · omega
      · rw [List.length_cons]; omega
    · omega
theorem line_le {l : List UInt8} : ∀ x ∈ linesOf l, x.length ≤ l.length := by
  induction l with
  | nil => intro x hx; cases hx
  | cons c r ih =>
    intro x hx
    unfold linesOf at hx
    split at hx
    · rcases List.mem_cons.1 hx with rfl | h
      · simp
      · have := ih x h; simp; omega
    · split at hx
      · rw [List.mem_singleton] at hx; rw [hx]; simp
      · rename_i y ys hy
        rcases List.mem_cons.1 hx with rfl | h
        · have := ih y (by rw [hy]; simp); simp; omega
        · have := ih x (by rw [hy]; simp [h]); simp; omega
/-- A line has no more words than bytes, and one. -/
theorem splitL_words (s : ByteArray) (l : List ByteArray) (hl : l ∈ splitL s) (hs : s.size ≤ 4000) : l.length ≤ 4611686018427387904 := by
  unfold splitL at hl
  split at hl
  · cases hl
  · split at hl
    · cases hl
    · unfold linesB at hl
      simp only [List.mem_map] at hl
      obtain ⟨ws, ⟨x, hx, rfl⟩, rfl⟩ := hl
      rw [List.length_map]
      have h1 := line_le x hx
      have h2 := fieldsGo_len (codeOf x) []
      have h3 : (codeOf x).length ≤ x.length := (List.takeWhile_sublist _).length_le
      have h4 : s.data.toList.length = s.size := by simp
      unfold Lib.fields
      omega

/-- Five texts. -/
structure T5 (W w : World) (tb : Nat) : Prop where
  below : Below W.heap.size W w
  x : ∀ k, k < 5 → ∃ x : ByteArray, w.cell? ⟨tb, k, none⟩ = some (.string x) ∧ x.size ≤ 4000
theorem T5.keep {W w w' : World} {tb : Nat} (h : T5 W w tb) (hb : Below w.heap.size w w') : T5 W w' tb :=
  ⟨h.below.trans (hb.mono h.below.size), fun k hk => by
    obtain ⟨x, h1, h2⟩ := h.x k hk
    refine ⟨x, ?_, h2⟩
    rw [hb.cell (p := ⟨tb, k, none⟩) (World.block_lt_of_cell? _ _ h1)]
    exact h1⟩
theorem T5.start {W w : World} {a b c d e : ByteArray} (h : Below W.heap.size W w) (ha : a.size ≤ 4000) (hb : b.size ≤ 4000) (hc : c.size ≤ 4000) (hd : d.size ≤ 4000) (he : e.size ≤ 4000) :
    T5 W (w.alloc (.cells #[.string a, .string b, .string c, .string d, .string e] 9)) w.heap.size := by
  refine ⟨h.alloc h.size _, fun k hk => ?_⟩
  rcases (show k = 0 ∨ k = 1 ∨ k = 2 ∨ k = 3 ∨ k = 4 by omega) with rfl | rfl | rfl | rfl | rfl
  · exact ⟨a, by simp, ha⟩
  · exact ⟨b, by simp, hb⟩
  · exact ⟨c, by simp, hc⟩
  · exact ⟨d, by simp, hd⟩
  · exact ⟨e, by simp, he⟩
/-- .. and three pairs. -/
structure P3 (W w : World) (tb ib : Nat) : Prop where
  t : T5 W w tb
  p : ∀ k, k < 3 → ∃ s t : Int, w.cell? ⟨ib, k * 2, none⟩ = some (.int .i64 s) ∧ w.cell? ⟨ib, k * 2 + 1, none⟩ = some (.int .i64 t)
theorem P3.keep {W w w' : World} {tb ib : Nat} (h : P3 W w tb ib) (hb : Below w.heap.size w w') : P3 W w' tb ib :=
  ⟨h.t.keep hb, fun k hk => by
    obtain ⟨s, t, h1, h2⟩ := h.p k hk
    refine ⟨s, t, ?_, ?_⟩
    · rw [hb.cell (p := ⟨ib, k * 2, none⟩) (World.block_lt_of_cell? _ _ h1)]; exact h1
    · rw [hb.cell (p := ⟨ib, k * 2 + 1, none⟩) (World.block_lt_of_cell? _ _ h2)]; exact h2⟩
theorem P3.start {W w : World} {tb : Nat} {a b c d e f : Int} (h : T5 W w tb) : P3 W (w.alloc (.cells #[.int .i64 a, .int .i64 b, .int .i64 c, .int .i64 d, .int .i64 e, .int .i64 f] 37)) tb w.heap.size := by
  refine ⟨h.keep ((Below.refl _ _).alloc (Nat.le_refl _) _), fun k hk => ?_⟩
  rcases (show k = 0 ∨ k = 1 ∨ k = 2 by omega) with rfl | rfl | rfl
  · exact ⟨_, _, by simp; rfl, by simp; rfl⟩
  · exact ⟨_, _, by simp; rfl, by simp; rfl⟩
  · exact ⟨_, _, by simp; rfl, by simp; rfl⟩
theorem cell_later {wx w' : World} {b j : Nat} {v : Value} (hb : Below wx.heap.size wx w') (h : wx.cell? ⟨b, j, none⟩ = some v) : w'.cell? ⟨b, j, none⟩ = some v := by
  rw [hb.cell (p := ⟨b, j, none⟩) (World.block_lt_of_cell? _ _ h)]; exact h
/-- Two lists of lines that can be joined. -/
structure J2 (W w : World) (jb : Nat) : Prop where
  below : Below W.heap.size W w
  l : ∀ k, k < 2 → ∃ (v : Value) (ls : List (List ByteArray)), w.cell? ⟨jb, k, none⟩ = some v ∧ (∃ p n c, v = .slice p n c) ∧ LinesAt w v ls ∧ ls.length ≤ 400 ∧ (∀ l ∈ ls, l.length ≤ 1048576 ∧ ∀ x ∈ l, x.size ≤ 1048576) ∧ textSz ls ≤ 1099511627776
theorem J2.keep {W w w' : World} {jb : Nat} (h : J2 W w jb) (hb : Below w.heap.size w w') : J2 W w' jb :=
  ⟨h.below.trans (hb.mono h.below.size), fun k hk => by
    obtain ⟨v, ls, h1, h2, h3, h4⟩ := h.l k hk
    exact ⟨v, ls, cell_later hb h1, h2, h3.below hb, h4⟩⟩
theorem wsum_le : ∀ (l : List ByteArray) (m : Nat), (∀ x ∈ l, x.size ≤ m) → wsum l ≤ l.length * (m + 1)
  | [], m, _ => by simp [wsum]
  | x :: l, m, h => by
    have h1 := h x (by simp)
    have h2 := wsum_le l m (fun y hy => h y (by simp [hy]))
    simp only [wsum, List.length_cons, Nat.add_mul]
    omega
theorem textSz_le : ∀ (ls : List (List ByteArray)) (m c : Nat), (∀ l ∈ ls, l.length ≤ c ∧ ∀ x ∈ l, x.size ≤ m) → textSz ls ≤ ls.length * (c * (m + 1) + 1)
  | [], m, c, _ => by simp [textSz]
  | l :: ls, m, c, h => by
    have h1 := h l (by simp)
    have h2 := textSz_le ls m c (fun y hy => h y (by simp [hy]))
    have h3 := wsum_le l m h1.2
    have h4 : l.length * (m + 1) ≤ c * (m + 1) := Nat.mul_le_mul_right _ h1.1
    simp only [textSz, List.length_cons, Nat.add_mul, lineSz]
    split <;> omega

theorem three_lines (w : World) (a b c : ByteArray) : LinesAt ((((w.alloc (.cells #[.string a, .string b] 9)).alloc (.cells #[] 9)).alloc (.cells #[.string c] 9)).alloc (.cells #[.slice (some ⟨w.heap.size, 0, none⟩) 2 2, .slice (some ⟨w.heap.size + 1, 0, none⟩) 0 0, .slice (some ⟨w.heap.size + 1 + 1, 0, none⟩) 1 1] 25)) (.slice (some ⟨w.heap.size + 1 + 1 + 1, 0, none⟩) 3 3) [[a, b], [], [c]] := by
  refine ⟨some ⟨w.heap.size + 1 + 1 + 1, 0, none⟩, 3, rfl, fun _ => ⟨w.heap.size + 1 + 1 + 1, 0, rfl, by simp, fun j l hj => ?_⟩⟩
  match j, hj with
  | 0, hj =>
    obtain rfl : [a, b] = l := by simpa using hj
    refine ⟨.slice (some ⟨w.heap.size, 0, none⟩) 2 2, cell_last _ _ (by simp) _ _ _ _ rfl, ?_⟩
    exact built_words (ws := [a, b]) ((((Below.heap_alloc _ _ _ (by simp; omega)).trans (Below.heap_alloc _ _ _ (by simp; omega))).trans (Below.heap_alloc _ _ _ (by simp))).trans (World.alloc_heap_new w _))
  | 1, hj =>
    obtain rfl : [] = l := by simpa using hj
    exact ⟨.slice (some ⟨w.heap.size + 1, 0, none⟩) 0 0, cell_last _ _ (by simp) _ _ _ _ rfl, some ⟨w.heap.size + 1, 0, none⟩, 0, rfl, Nat.le_refl _, fun h => by simp at h⟩
  | 2, hj =>
    obtain rfl : [c] = l := by simpa using hj
    refine ⟨.slice (some ⟨w.heap.size + 1 + 1, 0, none⟩) 1 1, cell_last _ _ (by simp) _ _ _ _ rfl, ?_⟩
    exact built_words (ws := [c]) ((Below.heap_alloc _ _ _ (by simp)).trans (by have := World.alloc_heap_new ((w.alloc (.cells #[.string a, .string b] 9)).alloc (.cells #[] 9)) (.cells #[.string c] 9); simpa using this))
theorem J2.start {W w : World} {v1 : Value} {ls : List (List ByteArray)} {s : ByteArray} (h : Below W.heap.size W w) (hs : s.size ≤ 3000) (h1 : LinesAt W v1 ls) (hl : ls.length ≤ 50) (hsm : ∀ l ∈ ls, l.length ≤ 20 ∧ ∀ x ∈ l, x.size ≤ 50) :
    J2 W (((((w.alloc (.cells #[.string ⟨#[97]⟩, .string s] 9)).alloc (.cells #[] 9)).alloc (.cells #[.string ⟨#[98]⟩] 9)).alloc (.cells #[.slice (some ⟨w.heap.size, 0, none⟩) 2 2, .slice (some ⟨w.heap.size + 1, 0, none⟩) 0 0, .slice (some ⟨w.heap.size + 1 + 1, 0, none⟩) 1 1] 25)).alloc (.cells #[v1, .slice (some ⟨w.heap.size + 1 + 1 + 1, 0, none⟩) 3 3] 22)) (w.heap.size + 1 + 1 + 1 + 1) := by
  have b1 := h.alloc h.size (.cells #[.string ⟨#[97]⟩, .string s] 9)
  have b2 := b1.alloc b1.size (.cells #[] 9)
  have b3 := b2.alloc b2.size (.cells #[.string ⟨#[98]⟩] 9)
  have b4 := b3.alloc b3.size (.cells #[.slice (some ⟨w.heap.size, 0, none⟩) 2 2, .slice (some ⟨w.heap.size + 1, 0, none⟩) 0 0, .slice (some ⟨w.heap.size + 1 + 1, 0, none⟩) 1 1] 25)
  have b5 := b4.alloc b4.size (.cells #[v1, .slice (some ⟨w.heap.size + 1 + 1 + 1, 0, none⟩) 3 3] 22)
  refine ⟨b5, fun k hk => ?_⟩
  rcases (show k = 0 ∨ k = 1 by omega) with rfl | rfl
  · refine ⟨v1, ls, cell_last _ _ (by simp) _ _ _ _ rfl, ?_, h1.below b5, by omega, fun l hl => ⟨by have := (hsm l hl).1; omega, fun x hx => by have := (hsm l hl).2 x hx; omega⟩, ?_⟩
    · obtain ⟨p, c, e, _⟩ := h1
      exact ⟨p, _, c, e⟩
    · have := textSz_le ls 50 20 hsm
      omega
  · refine ⟨_, _, cell_last _ _ (by simp) _ _ _ _ rfl, ⟨_, _, _, rfl⟩, (three_lines w ⟨#[97]⟩ s ⟨#[98]⟩).below ((Below.refl _ _).alloc (Nat.le_refl _) _), by simp, ?_, ?_⟩
    · intro l hl
      have e1 : (⟨#[97]⟩ : ByteArray).size = 1 := rfl
      have e2 : (⟨#[98]⟩ : ByteArray).size = 1 := rfl
      simp only [List.mem_cons, List.not_mem_nil, or_false] at hl
      rcases hl with rfl | rfl | rfl <;> simp [e1, e2] <;> omega
    · have := textSz_le [[(⟨#[97]⟩ : ByteArray), s], [], [⟨#[98]⟩]] 3000 2 (by
        intro l hl
        have e1 : (⟨#[97]⟩ : ByteArray).size = 1 := rfl
        have e2 : (⟨#[98]⟩ : ByteArray).size = 1 := rfl
        simp only [List.mem_cons, List.not_mem_nil, or_false] at hl
        rcases hl with rfl | rfl | rfl <;> simp [e1, e2] <;> omega)
      simp only [List.length_cons, List.length_nil] at this
      omega

theorem numR_shape (l : List UInt8) (a b : Int) : ∃ (x : Int) (f : Bool), numR l a b = .tuple #[.int .i64 x, .bool f] := by
  rw [numR_fold]
  split
  · exact ⟨_, _, rfl⟩
  · exact ⟨_, _, rfl⟩

set_option maxHeartbeats 8000000 in
set_option maxRecDepth 100000 in
theorem answers_walk (s : ByteArray) (hs : s.size ≤ 9223372036854775807) (v1 : Value) (ls : List (List ByteArray)) (hN : ls.length ≤ 9223372036854775807) (hM : ∀ l ∈ ls, l.length ≤ 9223372036854775807 ∧ ∀ x ∈ l, x.size ≤ 9223372036854775807)
    (n a b : Int) (hn0 : -9223372036854775808 ≤ n) (hn1 : n ≤ 9223372036854775807) (v5 : Value) (n5 : Nat) (g5 : Nat → Int) (W : World) (hL : Laid W) (h1 : LinesAt W v1 ls) (h5 : IntsAt .i64 W v5 n5 g5) (c5 : CapAt v5) :
    Calls Tryd.prog 3 #[.string s, v1, .int .i64 n, .int .i64 a, .int .i64 b, v5] W fun e w' => e = .returned (.bool true) ∧ Below W.heap.size W w' := by
  have HL1 := Lib.hid h1
  have HM := Lib.hid hM
  obtain ⟨p1, k1, rfl, h1⟩ := h1
  have H1 := Lib.hid h1
  have hNew := new_any v5 n5 g5 W h5 c5
  have HNEW := Lib.hid hNew
  have HLA := Lib.hid hL
  have HAW := Lib.hid (awake_any W hL)
  clear h1 h5 c5 hM hNew hL
  by_cases q1 : 3000 < s.size
  · have q1' : (3000 : Int) < (s.size : Int) := by omega
    go_enter Tryd.func3, Tryd.ntmps3
    go_wp2_with (go_at_call 7; (with_reducible refine HAW.out.mono ?_); rintro e w2 ⟨rfl, hb3⟩)
    go_ret
    exact ⟨rfl, hb3⟩
  · have q1' : ¬ (3000 : Int) < (s.size : Int) := by omega
    by_cases q2 : 50 < ls.length
    · have q2' : (50 : Int) < (ls.length : Int) := by omega
      go_enter Tryd.func3, Tryd.ntmps3
      go_wp2_with (go_at_call 7; (with_reducible refine HAW.out.mono ?_); rintro e w2 ⟨rfl, hb3⟩)
      go_ret
      exact ⟨rfl, hb3⟩
    · have q2' : ¬ (50 : Int) < (ls.length : Int) := by omega
      go_enter Tryd.func3, Tryd.ntmps3
      go_wp2_with fail
      go_loop [47] (fun v => ∃ j : Nat, j ≤ ls.length ∧ v = .int .i64 j ∧ (ls.take j).all smallL = true) (fun v => ls.length - (intOf v).toNat)
      case atStart => exact ⟨0, Nat.zero_le _, rfl, rfl⟩
      case round =>
        obtain ⟨j, hj, rfl, hsm⟩ := hrel
        have HSM := Lib.hid hsm
        clear hsm
        by_cases hlt : j < ls.length
        · obtain ⟨b1, o1, rfl, hl1, hcs⟩ := H1.out (by omega)
          obtain ⟨l, hx⟩ : ∃ l, ls[j]? = some l := ⟨_, List.getElem?_eq_getElem hlt⟩
          have hmem := List.mem_of_getElem? hx
          obtain ⟨u, hcell, hu⟩ := hcs j l hx
          obtain ⟨hll, hwl⟩ := HM.out l hmem
          obtain ⟨p2, k2, rfl, hc2, hu2⟩ := hu
          have HU := Lib.hid hu2
          have HWL := Lib.hid hwl
          have HA : Hid ((ls.take (j + 1)).all smallL = ((ls.take j).all smallL && smallL l)) := all_take_succ hx
          have z1 : (j : Int) < (ls.length : Int) := by omega
          have z0 : (0 : Int) ≤ (j : Int) := by omega
          clear hcs hu2 hwl hx
          generalize hnn : ls.length = nn at *
          by_cases h20 : 20 < l.length
          · have z2 : (20 : Int) < (l.length : Int) := by omega
            go_wp2_with (go_at_call 7; (with_reducible refine HAW.out.mono ?_); rintro e w2 ⟨rfl, hb3⟩)
            go_ret
            exact ⟨rfl, hb3⟩
          · have z2 : ¬ (20 : Int) < (l.length : Int) := by omega
            go_wp2_with fail
            go_loop [62] (fun v => ∃ k : Nat, k ≤ l.length ∧ v = .int .i64 k ∧ ((l.take k).all fun x => decide (x.size ≤ 50)) = true) (fun v => l.length - (intOf v).toNat)
            case atStart => exact ⟨0, Nat.zero_le _, rfl, rfl⟩
            case round =>
              obtain ⟨k, hk, rfl, hko⟩ := hrel
              have HKO := Lib.hid hko
              clear hko
              by_cases hkl : k < l.length
              · obtain ⟨b2, o2, rfl, hl2, hcs2⟩ := HU.out (by omega)
                obtain ⟨x, hxk⟩ : ∃ x, l[k]? = some x := ⟨_, List.getElem?_eq_getElem hkl⟩
                have hcx := hcs2 k x hxk
                have hxs := HWL.out x (List.mem_of_getElem? hxk)
                have HK1 : Hid (((l.take (k + 1)).all fun x => decide (x.size ≤ 50)) = (((l.take k).all fun x => decide (x.size ≤ 50)) && decide (x.size ≤ 50))) := all_take_succ hxk
                have z3 : (k : Int) < (l.length : Int) := by omega
                have z4 : (0 : Int) ≤ (k : Int) := by omega
                clear hcs2 hxk
                generalize hlk : l.length = kk at *
                by_cases h50 : 50 < x.size
                · have z5 : (50 : Int) < (x.size : Int) := by omega
                  go_wp2_with (go_at_call 7; (with_reducible refine HAW.out.mono ?_); rintro e w2 ⟨rfl, hb3⟩)
                  go_ret
                  exact ⟨rfl, hb3⟩
                · have z5 : ¬ (50 : Int) < (x.size : Int) := by omega
                  have HK2 := Lib.hid (show ((l.take (k + 1)).all fun x => decide (x.size ≤ 50)) = true by rw [HK1.out, HKO.out, decide_eq_true (show x.size ≤ 50 by omega)]; rfl)
                  go_wp2_with fail
                  go_round
                  case rel => exact ⟨k + 1, by omega, by go_num, HK2.out⟩
                  case measure => simp [intOf]; omega
              · obtain rfl : k = l.length := by omega
                have HA2 := Lib.hid (show (ls.take (j + 1)).all smallL = true by
                  have h6 := HKO.out
                  rw [List.take_length] at h6
                  rw [HA.out, HSM.out, smallL, h6, decide_eq_true (show l.length ≤ 20 by omega)]; rfl)
                go_wp2_with fail
                go_round
                case rel => exact ⟨j + 1, by omega, by go_num, HA2.out⟩
                case measure => simp [intOf]; omega
        · obtain rfl : j = ls.length := by omega
          have hsm := HSM.out
          rw [List.take_length] at hsm
          have HSMALL : Hid (∀ l ∈ ls, l.length ≤ 20 ∧ ∀ x ∈ l, x.size ≤ 50) := fun l hl => smallL_iff.1 (List.all_eq_true.1 hsm l hl)
          clear hsm HSM
          have kc := fun w => Lib.run_convert_string_bytes (P := Tryd.prog) w 9 28 5 s Tryd.underlying9 Tryd.underlying28 Tryd.underlying5
          go_wp2_with (go_at_call 8; (with_reducible refine HNEW.out.mono ?_); rintro e w1 ⟨rfl, hb1, ht1, hz1⟩)
          have hB0 := Bts.start (s := s) hb1 ht1 hz1
          generalize grownCap w1 s.size 0 5 = gc at *
          generalize Lib.bytesWorld w1 5 s = w2 at *
          have HB0 := Lib.hid hB0
          clear hB0 hb1 ht1 hz1 kc
          go_loopw [83] (fun v wr => ∃ (j : Nat) (xs : List Int), j ≤ s.size ∧ v = .int .i64 j ∧ Bts W wr s.size xs) (fun v _ => s.size - (intOf v).toNat)
          case atStart => exact ⟨0, _, Nat.zero_le _, rfl, HB0.out⟩
          case round =>
            obtain ⟨j, xs, hj, rfl, hB⟩ := hrel
            clear HB0
            by_cases hlt : j < s.size
            · have z1 : (j : Int) < (s.size : Int) := by omega
              have z0 : (0 : Int) ≤ (j : Int) := by omega
              have hOne := one_any wr W.heap.size hB.tape 2 (by omega) (by omega)
              have HO := Lib.hid hOne
              have HB := Lib.hid hB
              clear hOne hB
              go_wp2_with fail
              refine HO.out.mono ?_
              rintro e w3 ⟨⟨bb, rfl⟩, hg3, ht3⟩
              have hB3 := HB.out.next hg3 ht3
              have hNx := next_any w3 W.heap.size ht3 9 (by omega)
              have HB3 := Lib.hid hB3
              have HN := Lib.hid hNx
              clear hB3 hNx hg3 ht3 HO HB
              cases bb with
              | false =>
                go_wp2_with fail
                go_roundw
                case rel => exact ⟨j + 1, xs, by omega, by go_num, HB3.out⟩
                case measure => simp [intOf]; omega
              | true =>
                go_wp2_with fail
                refine HN.out.mono ?_
                rintro e w4 ⟨x, rfl, hx, hg4, ht4⟩
                obtain ⟨k, rfl, hk9⟩ := nat_of' hx (by omega)
                have hB4 := HB3.out.next hg4 ht4
                have hc := hB4.cells j hlt
                obtain ⟨hc1, hc2⟩ := hc
                have HS := Lib.hid (fun z => hB4.store hlt z)
                have z5 : k < 9 := by omega
                clear hB4 hg4 ht4 HN HB3 hx
                go_wp2_with fail
                go_roundw
                case rel => exact ⟨j + 1, _, by omega, by go_num, HS.out _⟩
                case measure => simp [intOf]; omega
            · obtain rfl : j = s.size := by omega
              have hbc : BC W wr s.size xs := fun i hi => by rw [Nat.zero_add]; exact (hB.cells i hi).1
              have hbb := hB.below
              have hlen := hB.len
              have kb : ∀ w', BC W w' s.size xs → (convert 28 9 (.slice (some ⟨W.heap.size + 1, 0, none⟩) s.size gc)).run Tryd.prog w' = .ok (.string (strOfNums xs)) w' := fun w' h =>
                run_convert_bytes_arg (P := Tryd.prog) w' 28 5 Tryd.underlying28 Tryd.underlying5 (W.heap.size + 1) 0 s.size gc xs hlen h 9 Tryd.underlying9
              have hys : (strOfNums xs).size ≤ 3000 := by rw [strOfNums_size, hlen]; omega
              have hds : (⟨(Lib.itoa n).toArray⟩ : ByteArray).size ≤ 20 := (itoa_len n hn0 hn1).1
              have hss : s.size ≤ 3000 := by omega
              generalize strOfNums xs = y at *
              have HD := Lib.hid (fun w hL => decimal_any n hn0 hn1 w hL)
              have HR := Lib.hid (fun w => refDecimal_any n hn0 hn1 w)
              generalize (⟨(Lib.itoa n).toArray⟩ : ByteArray) = d at *
              have hc1 : ¬ 9223372036854775807 < y.size + 1 := by omega
              have hc2 : ¬ 9223372036854775807 < 1 + d.size := by omega
              clear hlen hB
              go_wp2_with fail
              refine wp_region_held_drew (S := (fun w' => BC W w' s.size xs ∧ Below W.heap.size W w')) (by kernel_rfl) ?_ (fun hHeld => ?_)
              · (refine ⟨?_, ?_⟩ <;> (first | assumption | exact Below.drew (by assumption) | exact BC.alloc (by assumption) (by omega) _ | exact Below.alloc (by assumption) (Below.size (by assumption)) _))
              refine wpAnyH_take (i := 0) (oi := ⟨some 95, _, _, _, _, _⟩) (v := ?_) rfl (by kernel_rfl) (by kernel_rfl) (by kernel_rfl) (fun _ _ _ h => h) (Or.inl ⟨by rfl, ?_⟩) (by assumption) ?_
              rotate_left
              · intro w hSw
                try dsimp only at hSw
                go_simp
                try with_reducible rfl
              try simp only [Act.put, List.setIfInBounds_toArray, List.set_cons_zero, List.set_cons_succ]
              refine wpAnyH_take (i := 1) (oi := ⟨some 96, _, _, _, _, _⟩) (v := ?_) rfl (by kernel_rfl) (by kernel_rfl) (by kernel_rfl) (fun _ _ _ h => h) (Or.inl ⟨by rfl, ?_⟩) (by assumption) ?_
              rotate_left
              · intro w hSw
                try dsimp only at hSw
                go_simp
                try with_reducible rfl
              try simp only [Act.put, List.setIfInBounds_toArray, List.set_cons_zero, List.set_cons_succ]
              refine wpAnyH_take (i := 2) (oi := ⟨some 97, _, _, _, _, _⟩) (v := ?_) rfl (by kernel_rfl) (by kernel_rfl) (by kernel_rfl) (fun _ _ _ h => h) (Or.inl ⟨by rfl, ?_⟩) (by assumption) ?_
              rotate_left
              · intro w hSw
                try dsimp only at hSw
                go_simp
                try with_reducible rfl
              try simp only [Act.put, List.setIfInBounds_toArray, List.set_cons_zero, List.set_cons_succ]
              refine wpAnyH_take (i := 3) (oi := ⟨some 98, _, _, _, _, _⟩) (v := ?_) rfl (by kernel_rfl) (by kernel_rfl) (by kernel_rfl) (fun _ _ _ h => h) (Or.inl ⟨by rfl, ?_⟩) (by assumption) ?_
              rotate_left
              · intro w hSw
                try dsimp only at hSw
                go_simp
                try with_reducible rfl
              try simp only [Act.put, List.setIfInBounds_toArray, List.set_cons_zero, List.set_cons_succ]
              refine wpAnyH_take (i := 4) (oi := ⟨some 99, _, _, _, _, _⟩) (v := ?_) rfl (by kernel_rfl) (by kernel_rfl) (by kernel_rfl) (fun _ _ _ h => h) (Or.inl ⟨by rfl, ?_⟩) (by assumption) ?_
              rotate_left
              · intro w hSw
                try dsimp only at hSw
                go_simp
                try with_reducible rfl
              try simp only [Act.put, List.setIfInBounds_toArray, List.set_cons_zero, List.set_cons_succ]
              refine wpAnyH_take (i := 5) (oi := ⟨some 100, _, _, _, _, _⟩) (v := ?_) rfl (by kernel_rfl) (by kernel_rfl) (by kernel_rfl) (fun _ _ _ h => h) (Or.inl ⟨by rfl, ?_⟩) (by assumption) ?_
              rotate_left
              · intro w hSw
                try dsimp only at hSw
                go_simp
                try with_reducible rfl
              try simp only [Act.put, List.setIfInBounds_toArray, List.set_cons_zero, List.set_cons_succ]
              refine wpAnyH_take (i := 6) (oi := ⟨some 101, _, _, _, _, _⟩) (v := ?_) rfl (by kernel_rfl) (by kernel_rfl) (by kernel_rfl) (fun _ _ _ h => h) (Or.inl ⟨by rfl, ?_⟩) (by assumption) ?_
              rotate_left
              · intro w hSw
                try dsimp only at hSw
                go_simp
                try with_reducible rfl
              try simp only [Act.put, List.setIfInBounds_toArray, List.set_cons_zero, List.set_cons_succ]
              refine wpAnyH_take (i := 8) (oi := ⟨some 103, _, _, _, _, _⟩) (v := ?_) rfl (by kernel_rfl) (by kernel_rfl) (by kernel_rfl) (fun _ _ _ h => h) (Or.inl ⟨by rfl, ?_⟩) (by assumption) ?_
              rotate_left
              · intro w hSw
                try dsimp only at hSw
                go_simp
                try with_reducible rfl
              try simp only [Act.put, List.setIfInBounds_toArray, List.set_cons_zero, List.set_cons_succ]
              refine wpAnyH_take (i := 13) (oi := ⟨some 108, _, _, _, _, _⟩) (v := ?_) rfl (by kernel_rfl) (by kernel_rfl) (by kernel_rfl) (fun _ _ _ h => h) (Or.inl ⟨by rfl, ?_⟩) (by assumption) ?_
              rotate_left
              · intro w hSw
                try dsimp only at hSw
                go_simp
                try with_reducible rfl
              try simp only [Act.put, List.setIfInBounds_toArray, List.set_cons_zero, List.set_cons_succ]
              refine wpAnyH_ready (rs := [7]) (by kernel_rfl) (by simp) ?_
              refine AllReadyH.cons (o := ⟨some 102, _, _, _, _, _⟩) rfl (fun K hK => ?_) AllReadyH.nil
              go_simp
              (first
                | (go_at_call 11; (refine (HD.out _ (HLA.out.below (by first | assumption | exact Below.drew (by assumption)))).mono ?_); rintro e w8 ⟨rfl, hb⟩; have k0 : BC W w8 s.size xs := BC.keep (by first | assumption | exact Below.drew (by assumption)) (by assumption) hb; have k1 : Below W.heap.size W w8 := below_step2 (by first | assumption | exact Below.drew (by assumption)) hb; clear hb)
                | (go_at_call 12; (refine (HR.out _).mono ?_); rintro e w9 ⟨rfl, hb⟩; have k0 : BC W w9 s.size xs := BC.keep (by assumption) (by assumption) hb; have k1 : Below W.heap.size W w9 := below_step2 (by assumption) hb; clear hb))
              first | (refine hK.out _ _ ?_ (fun hHeld => ?_)) | (go_wp2_with fail; refine hK.out _ _ ?_ (fun hHeld => ?_))
              · (refine ⟨?_, ?_⟩ <;> (first | assumption | exact Below.drew (by assumption) | exact BC.alloc (by assumption) (by omega) _ | exact Below.alloc (by assumption) (Below.size (by assumption)) _))
              clear hK K
              try simp only [Act.put, List.setIfInBounds_toArray, List.set_cons_zero, List.set_cons_succ]
              refine wpAnyH_ready (rs := [9]) (by kernel_rfl) (by simp) ?_
              refine AllReadyH.cons (o := ⟨some 104, _, _, _, _, _⟩) rfl (fun K hK => ?_) AllReadyH.nil
              go_simp
              (first
                | (go_at_call 11; (refine (HD.out _ (HLA.out.below (by first | assumption | exact Below.drew (by assumption)))).mono ?_); rintro e w8 ⟨rfl, hb⟩; have k0 : BC W w8 s.size xs := BC.keep (by first | assumption | exact Below.drew (by assumption)) (by assumption) hb; have k1 : Below W.heap.size W w8 := below_step2 (by first | assumption | exact Below.drew (by assumption)) hb; clear hb)
                | (go_at_call 12; (refine (HR.out _).mono ?_); rintro e w9 ⟨rfl, hb⟩; have k0 : BC W w9 s.size xs := BC.keep (by assumption) (by assumption) hb; have k1 : Below W.heap.size W w9 := below_step2 (by assumption) hb; clear hb))
              first | (refine hK.out _ _ ?_ (fun hHeld => ?_)) | (go_wp2_with fail; refine hK.out _ _ ?_ (fun hHeld => ?_))
              · (refine ⟨?_, ?_⟩ <;> (first | assumption | exact Below.drew (by assumption) | exact BC.alloc (by assumption) (by omega) _ | exact Below.alloc (by assumption) (Below.size (by assumption)) _))
              clear hK K
              try simp only [Act.put, List.setIfInBounds_toArray, List.set_cons_zero, List.set_cons_succ]
              refine wpAnyH_take (i := 10) (oi := ⟨some 105, _, _, _, _, _⟩) (v := ?_) rfl (by kernel_rfl) (by kernel_rfl) (by kernel_rfl) (fun _ _ _ h => h) (Or.inl ⟨by rfl, ?_⟩) (by assumption) ?_
              rotate_left
              · intro w hSw
                try dsimp only at hSw
                go_simp
                try with_reducible rfl
              try simp only [Act.put, List.setIfInBounds_toArray, List.set_cons_zero, List.set_cons_succ]
              refine wpAnyH_ready (rs := [11]) (by kernel_rfl) (by simp) ?_
              refine AllReadyH.cons (o := ⟨some 106, _, _, _, _, _⟩) rfl (fun K hK => ?_) AllReadyH.nil
              go_simp
              first | (refine hK.out _ _ ?_ (fun hHeld => ?_)) | (go_wp2_with fail; refine hK.out _ _ ?_ (fun hHeld => ?_))
              · (refine ⟨?_, ?_⟩ <;> (first | assumption | exact Below.drew (by assumption) | exact BC.alloc (by assumption) (by omega) _ | exact Below.alloc (by assumption) (Below.size (by assumption)) _))
              clear hK K
              try simp only [Act.put, List.setIfInBounds_toArray, List.set_cons_zero, List.set_cons_succ]
              refine wpAnyH_take (i := 12) (oi := ⟨some 107, _, _, _, _, _⟩) (v := ?_) rfl (by kernel_rfl) (by kernel_rfl) (by kernel_rfl) (fun _ _ _ h => h) (Or.inl ⟨by rfl, ?_⟩) (by assumption) ?_
              rotate_left
              · intro w hSw
                try dsimp only at hSw
                go_simp
                try with_reducible rfl
              try simp only [Act.put, List.setIfInBounds_toArray, List.set_cons_zero, List.set_cons_succ]
              refine wpAnyH_done (by kernel_rfl) ?_ _
              go_wp2_with fail
              have hT := T5.start (W := W) (w := w9) (a := s) (b := y) (c := y ++ ⟨#[10]⟩) (d := d) (e := (⟨#[48]⟩ : ByteArray) ++ d) (by assumption) (by omega) (by omega) (by rw [ByteArray.size_append]; show y.size + 1 ≤ 4000; omega) (by omega) (by rw [ByteArray.size_append]; show 1 + d.size ≤ 4000; omega)
              generalize hwt : w9.alloc (.cells #[.string s, .string y, .string (y ++ ⟨#[10]⟩), .string d, .string ((⟨#[48]⟩ : ByteArray) ++ d)] 9) = wt at *
              generalize w9.heap.size = tb at *
              have HT := Lib.hid hT
              clear hT hwt kb
              go_loopw [108] (fun i wr => ∃ k : Nat, k ≤ 5 ∧ i = .int .i64 k ∧ T5 W wr tb) (fun i _ => 5 - (intOf i).toNat)
              case atStart => exact ⟨0, Nat.zero_le _, rfl, HT.out⟩
              case round =>
                obtain ⟨k, hk, rfl, hT⟩ := hrel
                clear HT
                by_cases hlt : k < 5
                · have z1 : (k : Int) < 5 := by omega
                  have z0 : (0 : Int) ≤ (k : Int) := by omega
                  obtain ⟨x, hx, hxs⟩ := hT.x k hlt
                  have hL2 := HLA.out.below hT.below
                  have HS1 := Lib.hid (split_any x wr hL2)
                  have HN1 := Lib.hid (fun w => same'' (fun w => name_any x (by omega) w) w)
                  have HN2 := Lib.hid (fun w => same'' (fun w => refName_any x (by omega) w) w)
                  have hspl := splitL_len x
                  have HT := Lib.hid hT
                  clear hT hL2
                  go_wp2_with fail
                  refine HS1.out.mono ?_
                  rintro e w3 ⟨v3, rfl, hl3, hb3⟩
                  have HS2 := Lib.hid (refSplit_any x w3)
                  have HT3 := Lib.hid (HT.out.keep hb3)
                  have HL3 := Lib.hid hl3
                  clear hb3 hl3 HT HS1 hx
                  go_wp2_with fail
                  refine HS2.out.mono ?_
                  rintro e w4 ⟨v4, rfl, hl4, hb4⟩
                  have HT4 := Lib.hid (HT3.out.keep hb4)
                  have hsame := same_true v3 v4 (splitL x) (by omega) (fun l hl => splitL_words x l hl (by omega)) w4 (HL3.out.below hb4) hl4
                  have HSA := Lib.hid hsame
                  generalize splitE x = er at *
                  clear hb4 hl4 HT3 HS2 hsame HL3 hspl
                  go_wp2_with (first
                    | (go_at_call 15; (with_reducible refine HSA.out.mono ?_); rintro e w5 ⟨rfl, q5, rfl⟩)
                    | (go_at_call 16; (with_reducible refine (HN1.out _).mono ?_); rintro e w' ⟨rfl, rfl⟩)
                    | (go_at_call 17; (with_reducible refine (HN2.out _).mono ?_); rintro e w' ⟨rfl, rfl⟩))
                  have hP := P3.start (a := a) (b := b) (c := -9223372036854775808) (d := 9223372036854775807) (e := 0) (f := 100) (HT4.out.keep (show Below w4.heap.size w4 (w4.drewN q5) from ⟨rfl, rfl, rfl, Nat.le_refl _, fun _ _ => rfl⟩))
                  generalize hwp : (w4.drewN q5).alloc (.cells #[.int .i64 a, .int .i64 b, .int .i64 (-9223372036854775808), .int .i64 9223372036854775807, .int .i64 0, .int .i64 100] 37) = wp at *
                  rw [show (w4.drewN q5).heap.size = w4.heap.size from rfl] at hP
                  generalize w4.heap.size = ib at *
                  have HP := Lib.hid hP
                  clear hP hwp HSA HT4
                  go_loopw [145] (fun i wr => ∃ j : Nat, j ≤ 3 ∧ i = .int .i64 j ∧ P3 W wr tb ib) (fun i _ => 3 - (intOf i).toNat)
                  case atStart => exact ⟨0, Nat.zero_le _, rfl, HP.out⟩
                  case round =>
                    obtain ⟨j, hj, rfl, hP⟩ := hrel
                    clear HP
                    by_cases hlj : j < 3
                    · have z3 : (j : Int) < 3 := by omega
                      have z4 : (0 : Int) ≤ (j : Int) := by omega
                      obtain ⟨lo, hi, hp1, hp2⟩ := hP.p j hlj
                      have hby := (Below.refl wr.heap.size wr).alloc (Nat.le_refl _) (.cells #[.int .i64 lo, .int .i64 hi] 37)
                      have hPa := hP.keep hby
                      have HNa := Lib.hid (number_any x (by omega) lo hi _ (HLA.out.below hPa.t.below))
                      have HNb := Lib.hid (fun w => refNumber_any x (by omega) lo hi w)
                      obtain ⟨u, fl, hsh⟩ := numR_shape x.data.toList lo hi
                      rw [hsh] at HNa HNb
                      have HPa := Lib.hid hPa
                      clear hby hPa hP hsh
                      go_wp2_with fail
                      refine HNa.out.mono ?_
                      rintro e w6 ⟨rfl, hb6⟩
                      have hy1 : w6.cell? ⟨wr.heap.size, 0, none⟩ = some (.int .i64 lo) := cell_later hb6 (by simp)
                      have hy2 : w6.cell? ⟨wr.heap.size, 1, none⟩ = some (.int .i64 hi) := cell_later hb6 (by simp)
                      have HP6 := Lib.hid (HPa.out.keep hb6)
                      clear hb6 HPa HNa hp1 hp2
                      go_wp2_with fail
                      refine (HNb.out _).mono ?_
                      rintro e w7 ⟨rfl, hb7⟩
                      have HP7 := Lib.hid (HP6.out.keep hb7)
                      clear hb7 HP6 HNb hy1 hy2
                      go_wp2_with fail
                      go_roundw
                      case rel => exact ⟨j + 1, by omega, by go_num, HP7.out⟩
                      case measure => simp [intOf]; omega
                    · obtain rfl : j = 3 := by omega
                      have HT6 := Lib.hid hP.t
                      clear hP
                      go_wp2_with fail
                      go_roundw
                      case rel => exact ⟨k + 1, by omega, by go_num, HT6.out⟩
                      case measure => simp [intOf]; omega
                · obtain rfl : k = 5 := by omega
                  have HT := Lib.hid hT
                  clear hT
                  go_wp2_with fail
                  have hJ := J2.start (s := s) HT.out.below (by omega) HL1.out (by omega) HSMALL.out
                  generalize hwj : ((((wr.alloc _).alloc _).alloc _).alloc _).alloc _ = wj at *
                  generalize wr.heap.size + 1 + 1 + 1 + 1 = jb at *
                  have HJ := Lib.hid hJ
                  clear hJ hwj HT
                  go_loopw [185] (fun i wx => ∃ j : Nat, j ≤ 2 ∧ i = .int .i64 j ∧ J2 W wx jb) (fun i _ => 2 - (intOf i).toNat)
                  case atStart => exact ⟨0, Nat.zero_le _, rfl, HJ.out⟩
                  case round =>
                    obtain ⟨j, hj, rfl, hJ⟩ := hrel
                    clear HJ
                    by_cases hlj : j < 2
                    · have z3 : (j : Int) < 2 := by omega
                      have z4 : (0 : Int) ≤ (j : Int) := by omega
                      obtain ⟨vj, lj, hc, ⟨pj, nj, cj, rfl⟩, hlj1, hlj2, hlj3, hlj4⟩ := hJ.l j hlj
                      have HJA := Lib.hid (join_any _ lj hlj2 hlj3 hlj4 _ hlj1)
                      have HJB : Hid (∀ w', Below wr.heap.size wr w' → Calls Tryd.prog 21 #[.slice pj nj cj] w' fun e w2 => joinR lj e ∧ Below w'.heap.size w' w2) := Lib.hid (fun w' hb => refJoin_any _ lj hlj2 hlj3 hlj4 _ (hlj1.below hb))
                      obtain ⟨xo, no, hone⟩ := joinR_one lj
                      have HO := Lib.hid hone
                      have HJ := Lib.hid hJ
                      clear hJ hlj1 hlj2 hlj3 hlj4 hone
                      go_wp2_with fail
                      refine HJA.out.mono ?_
                      rintro e w6 ⟨hj6, hb6⟩
                      obtain rfl := HO.out e hj6
                      have HJ6 := Lib.hid (HJ.out.keep hb6)
                      have HJB6 := Lib.hid (HJB.out w6 hb6)
                      clear hb6 hj6 HJA HJB HJ hc
                      go_wp2_with fail
                      refine HJB6.out.mono ?_
                      rintro e w7 ⟨hj7, hb7⟩
                      obtain rfl := HO.out e hj7
                      have HJ7 := Lib.hid (HJ6.out.keep hb7)
                      clear hb7 hj7 HJB6 HO HJ6
                      go_wp2_with fail
                      refine ⟨?_, ?measure⟩
                      · repeat apply Exists.intro
                        refine ⟨?rel, rfl⟩
                        exact ⟨j + 1, by omega, by go_num, HJ7.out⟩
                      case measure => simp [intOf]; omega
                    · obtain rfl : j = 2 := by omega
                      have HDW := Lib.hid (HD.out wr (HLA.out.below hJ.below))
                      have HRW := Lib.hid (fun w => HR.out w)
                      have HB := Lib.hid hJ.below
                      clear hJ
                      go_wp2_with fail
                      refine HDW.out.mono ?_
                      rintro e w6 ⟨rfl, hb6⟩
                      have HB6 := Lib.hid (below_step2 HB.out hb6)
                      clear HDW hb6 HB
                      go_wp2_with fail
                      refine (HRW.out _).mono ?_
                      rintro e w7 ⟨rfl, hb7⟩
                      have HB7 := Lib.hid (below_step2 HB6.out hb7)
                      have HAW7 := Lib.hid (awake_any w7 (HLA.out.below HB7.out))
                      clear HRW hb7 HB6
                      go_wp2_with fail
                      refine HAW7.out.mono ?_
                      rintro e w8 ⟨rfl, hb8⟩
                      have HB8 := Lib.hid (below_step2 HB7.out hb8)
                      clear HAW7 hb8 HB7
                      go_wp2_with fail
                      go_ret
                      exact ⟨rfl, HB8.out⟩
end Go.Proofs.YtainjdmgncicmaaDoor
