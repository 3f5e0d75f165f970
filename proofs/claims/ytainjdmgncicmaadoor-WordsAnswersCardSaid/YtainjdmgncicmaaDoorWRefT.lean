/- The reference's Split, where the text has its form. -/
import Derived.Test.YtainjdmgncicmaaDoorWRefS
import Derived.Test.YtainjdmgncicmaaDoorWX
namespace Go.Proofs.YtainjdmgncicmaaDoor
open Go.RowKit Go.Shelf

/-- The lines so far, in rows of the call's own, all below hi. -/
structure Rec (W0 : World) (hi : Nat) (ls : List (List ByteArray)) (v4 : Value) (w : World) : Prop where
  below : Below W0.heap.size W0 w
  own : ∃ vs, w.ownsRow W0.heap.size 25 1 v4 ls.length vs ∧ RowsOwn w W0.heap.size hi vs ls
  low : W0.heap.size ≤ hi
  high : hi ≤ w.heap.size

theorem Rec.start (W0 : World) : Rec W0 W0.heap.size [] (.slice none 0 0) W0 :=
  ⟨Below.refl _ _, ⟨[], World.ownsRow_nil _ _ _ _, trivial⟩, Nat.le_refl _, Nat.le_refl _⟩

theorem Rec.step {W0 : World} {hi : Nat} {ls : List (List ByteArray)} {v4 : Value} {w w' : World} {row : Option Nat} (h : Rec W0 hi ls v4 w) (hg : w.grownBy w' row)
    (hr : ∀ r, row = some r → hi ≤ r ∧ ∃ cs, w.heap[r]? = some (.cells cs 9 (0, 0))) : Rec W0 hi ls v4 w' where
  below := h.below.grown hg h.below.size (fun r e => by
    have := h.low
    have := (hr r e).1
    omega)
  own := by
    obtain ⟨vs, h1, h2⟩ := h.own
    refine ⟨vs, h1.kept hg ?_, h2.kept hg (fun r e => .inr (.inl (hr r e).1))⟩
    cases hv : v4.ownBlock with
    | none => exact .inl rfl
    | some g =>
      refine .inr fun e => ?_
      obtain ⟨cur, hcur⟩ := own_block h1 hv
      obtain ⟨_, cs, h4⟩ := hr g e.symm
      rw [hcur] at h4
      simp at h4
  low := h.low
  high := Nat.le_trans h.high hg.size

theorem Rec.keep {W0 : World} {hi : Nat} {ls : List (List ByteArray)} {v4 : Value} {w w' : World} (h : Rec W0 hi ls v4 w) (hb : Below w.heap.size w w') : Rec W0 hi ls v4 w' :=
  h.step (row := none) ⟨hb.os, hb.tape, hb.output, hb.size, fun k hk _ => hb.block k hk⟩ (fun r e => by cases e)

theorem Rec.top {W0 : World} {hi : Nat} {ls : List (List ByteArray)} {v4 : Value} {w : World} (h : Rec W0 hi ls v4 w) : Rec W0 w.heap.size ls v4 w := by
  obtain ⟨vs, h1, h2⟩ := h.own
  exact ⟨h.below, ⟨vs, h1, h2.mono h.high⟩, h.below.size, Nat.le_refl _⟩

/-- A word more. -/
theorem Rec.word {W0 : World} {hi : Nat} {ls : List (List ByteArray)} {v4 : Value} {w w5 : World} {v7 m' : Value} {n m : Nat} {xs ys : List Value} {O : Obj} (h : Rec W0 hi ls v4 w) (h7 : w.ownsRow hi 9 1 v7 n xs)
    (_ho : w5.ownsRow hi 9 1 m' m ys) (hg : (w.alloc O).grownBy w5 v7.ownBlock) : Rec W0 hi ls v4 w5 := by
  have h1 := h.keep ((Below.refl _ _).alloc (Nat.le_refl _) O)
  refine h1.step hg (fun r e => ?_)
  have h2 := (h7.alloc O).lt r e
  exact ⟨h2.1, own_block (h7.alloc O) e⟩

/-- A line more. -/
theorem Rec.line {W0 : World} {hi : Nat} {ls : List (List ByteArray)} {v4 v4' : Value} {w w5 : World} {v7 : Value} {l : List ByteArray} {vs : List Value} (h : Rec W0 hi ls v4 w)
    (h4 : w.ownsRow W0.heap.size 25 1 v4 ls.length vs) (hvs : RowsOwn w W0.heap.size hi vs ls) (h7 : w.ownsRow hi 9 1 v7 l.length (l.map Value.string))
    (ho : w5.ownsRow W0.heap.size 25 1 v4' (ls.length + 1) (vs ++ [v7])) (hg : (w.alloc (.cells #[v7] 25)).grownBy w5 v4.ownBlock) : Rec W0 w5.heap.size (ls ++ [l]) v4' w5 := by
  have hlow := h.low
  have hhigh := h.high
  have hr : ∀ r, v4.ownBlock = some r → W0.heap.size ≤ r ∧ ∀ cs, (w.alloc (.cells #[v7] 25)).heap[r]? ≠ some (.cells cs 9 (0, 0)) := fun r e => by
    have h2 := (h4.alloc (.cells #[v7] 25)).lt r e
    refine ⟨h2.1, fun cs hcs => ?_⟩
    obtain ⟨cur, hcur⟩ := own_block (h4.alloc (.cells #[v7] 25)) e
    rw [hcur] at hcs
    simp at hcs
  have hga : w.grownBy (w.alloc (.cells #[v7] 25)) none := World.grownBy_alloc w _ none
  have k1 := hvs.kept hga (fun r e => by cases e)
  have hw7 : WordOwn w W0.heap.size w.heap.size v7 l := by
    refine ⟨?_, fun g e => (h7.lt g e).2⟩
    obtain ⟨a1, a2⟩ := h7
    refine ⟨a1, ?_⟩
    rcases a2 with a2 | ⟨g, cap, cur, e1, e2, e3⟩
    · exact .inl a2
    · exact .inr ⟨g, cap, cur, e1, by omega, e3⟩
  have k2 := hw7.kept hga (fun r e => by cases e)
  have hs5 : w.heap.size ≤ w5.heap.size := by
    have := hg.size
    rw [World.size_alloc] at this
    omega
  have k3 := k1.kept hg (fun r e => .inr (.inr (hr r e).2))
  have k4 := k2.kept hg (fun r e => .inr (.inr (hr r e).2))
  have hbw := ((Below.refl W0.heap.size w).alloc h.below.size (.cells #[v7] 25)).grown hg (by rw [World.size_alloc]; have := h.below.size; omega) (fun r e => (hr r e).1)
  have k5 : WordOwn w5 W0.heap.size w5.heap.size v7 l := ⟨k4.1, fun g e => Nat.lt_of_lt_of_le (k4.2 g e) hs5⟩
  exact ⟨h.below.trans hbw, ⟨vs ++ [v7], by rw [List.length_append]; exact ho, (k3.mono (by omega)).snoc k5⟩, by omega, Nat.le_refl _⟩

theorem Rec.lines {W0 : World} {hi : Nat} {ls : List (List ByteArray)} {v4 : Value} {w : World} (h : Rec W0 hi ls v4 w) : LinesAt w v4 ls := by
  obtain ⟨vs, h1, h2⟩ := h.own
  rcases h1.2 with ⟨rfl, h0⟩ | ⟨g, cap, cur, rfl, _, hgb, hnc, _, hcs, hx⟩
  · have e : ls = [] := List.eq_nil_of_length_eq_zero h0
    subst e
    exact ⟨none, 0, rfl, fun h => by simp at h⟩
  · refine ⟨some ⟨g, 0, none⟩, cap, rfl, fun h0 => ⟨g, 0, rfl, (Array.getElem?_eq_some_iff.1 hgb).1, fun j l hj => ?_⟩⟩
    obtain ⟨u, hu, hw⟩ := RowsOwn.at h2 j l hj
    refine ⟨u, ?_, hw.words⟩
    have hj2 : j < ls.length := (List.getElem?_eq_some_iff.1 hj).1
    rw [← hx, List.getElem?_take_of_lt (by omega)] at hu
    simp only [World.cell?, Nat.zero_add]
    rw [hgb]
    simpa using hu

/-- The last byte of a text is a line feed, if it has one. -/
def Ends (l : List UInt8) : Prop := l = [] ∨ l.getLast? = some 10
theorem Ends.drop {l : List UInt8} (h : Ends l) (k : Nat) : Ends (l.drop k) := by
  rcases h with rfl | h
  · left; simp
  · by_cases hk : l.length ≤ k
    · left; exact List.drop_eq_nil_of_le hk
    · right; rw [List.getLast?_drop, if_neg hk]; exact h
theorem Ends.hit {l : List UInt8} (h : Ends l) (hl : l ≠ []) : ∃ i : Nat, Lib.indexByte l 10 = (i : Int) ∧ i < l.length := by
  have hg := Lib.indexByte_ge l 10
  by_cases hm : Lib.indexByte l 10 = -1
  · rcases h with h | h
    · exact absurd h hl
    · rw [List.getLast?_eq_getElem?] at h
      exact absurd h (Lib.indexByte_none hm _)
  · obtain ⟨i, hi⟩ := Int.eq_ofNat_of_zero_le (show 0 ≤ Lib.indexByte l 10 by omega)
    have := (Lib.indexByte_some hi).1
    exact ⟨i, hi, (List.getElem?_eq_some_iff.1 this).1⟩

/-- What Split reads of a text. -/
def linesB (t : List UInt8) : List (List ByteArray) := ((linesOf t).map fun x => Lib.fields (codeOf x)).map fun ws => ws.map fun l => ⟨l.toArray⟩

theorem info_str0 : (Tryd.prog.info? 9).map (fun i => (i.zero, i.size, i.bytes)) = some (some (.string ⟨#[]⟩), 1, 16) := by kernel_rfl
theorem own_slice7 {W : World} {base : Nat} {e : TypeId} {size k : Nat} {v : Value} {xs : List Value} (h : W.ownsRow base e size v k xs) : ∃ p n c, v = .slice p n c := by
  rcases h.2 with ⟨rfl, _⟩ | ⟨g, cap, cur, rfl, _⟩
  · exact ⟨_, _, _, rfl⟩
  · exact ⟨_, _, _, rfl⟩
theorem linesB_len (l : List UInt8) : (linesB l).length ≤ l.length := by
  unfold linesB
  rw [List.length_map, List.length_map]
  exact linesOf_len l
theorem all_drop {p : UInt8 → Bool} {l : List UInt8} (h : l.all p = true) (k : Nat) : (l.drop k).all p = true := by
  rw [List.all_eq_true] at h ⊢
  exact fun c hc => h c (List.mem_of_mem_drop hc)
/-- A piece that is a word. -/
def ne (x : ByteArray) : Bool := !x.data.toList.isEmpty
theorem filter_take_succ {α : Type} {f : α → Bool} {l : List α} {j : Nat} {x : α} (h : l[j]? = some x) : (l.take (j + 1)).filter f = (l.take j).filter f ++ if f x then [x] else [] := by
  rw [List.take_add_one, h, List.filter_append]
  congr 1
  simp only [Option.toList_some, List.filter_cons, List.filter_nil]
theorem take_snoc10 {t : List UInt8} {i : Nat} (hi : Lib.indexByte t 10 = (i : Int)) : t.take (i + 1) = t.take i ++ [10] := by
  rw [List.take_add_one, (Lib.indexByte_some hi).1]
  rfl
theorem piece_line {t c : ByteArray} {i : Nat} (hc : c.data.toList = codeOf (t.data.toList.take i)) (hok : t.data.toList.all okByte = true) (hi : Lib.indexByte t.data.toList 10 = (i : Int)) :
    (Lib.splitB ⟨#[32]⟩ 0 (Lib.countB c ⟨#[32]⟩) c).filter ne = (Lib.fields (codeOf (t.data.toList.take (i + 1)))).map (fun l => ⟨l.toArray⟩) := by
  have h1 : ((Lib.splitB ⟨#[32]⟩ 0 (Lib.countB c ⟨#[32]⟩) c).filter ne).map (·.data.toList) = (Lib.split c.data.toList [32]).filter (fun x => !x.isEmpty) := by
    rw [show Lib.split c.data.toList [32] = (Lib.splitB ⟨#[32]⟩ 0 (Lib.countB c ⟨#[32]⟩) c).map (·.data.toList) from (Lib.splitB_data ⟨#[32]⟩ 0 _ c).symm, List.filter_map]
    rfl
  have h2 := line_same (t.data.toList.take i) (fun d hd => ⟨List.all_eq_true.1 hok d (List.mem_of_mem_take hd), fun e => by
    obtain ⟨k, hk, e2⟩ := List.mem_iff_getElem.1 hd
    rw [List.length_take] at hk
    rw [List.getElem_take] at e2
    exact (Lib.indexByte_some hi).2 k (by omega) (by rw [List.getElem?_eq_getElem (by omega), e2, e])⟩)
  rw [take_snoc10 hi, ← h2, ← hc, ← h1, List.map_map]
  conv => lhs; rw [← List.map_id ((Lib.splitB ⟨#[32]⟩ 0 (Lib.countB c ⟨#[32]⟩) c).filter ne)]
  apply List.map_congr_left
  intro x _
  rfl

def strSz (v : Value) : Nat := match v with | .string t => t.size | _ => 0

set_option maxHeartbeats 4000000 in
set_option maxRecDepth 100000 in
theorem refSplit_ok (s : ByteArray) (hs : s.size ≤ 16384) (hn : Lib.countByte s.data.toList 10 ≤ 400) (hw : wholeB s = true) (hp : s.data.toList.all okByte = true) (w : World) :
    Calls Tryd.prog 14 #[.string s] w fun e w' => ∃ v, e = .returned (.tuple #[v, .int .i64 0]) ∧ LinesAt w' v (linesB s.data.toList) ∧ Below w.heap.size w w' := by
  obtain ⟨i0, hi0, hz0, hz1, hz2⟩ := info_parts info_str0
  obtain ⟨i1, hi1, hy0, hy1, hy2⟩ := info_parts info_line
  have hcount := same'' fun w => Tryd.strings_Count_one s 10 w
  have h1' : ¬ (16384 : Int) < (s.size : Int) := by omega
  have h2 : ¬ (400 : Int) < ((Lib.countByte s.data.toList 10 : Nat) : Int) := by omega
  generalize Lib.countByte s.data.toList 10 = nn at *
  by_cases h0 : s.size = 0
  · have e1 : s = ⟨#[]⟩ := by
      cases s with
      | mk d => rw [Array.eq_empty_of_size_eq_zero (show d.size = 0 from h0)]
    subst e1
    go_enter Tryd.func14, Tryd.ntmps14
    go_wp2_with (go_at_call 26; (with_reducible refine (hcount _).mono ?_); rintro e w' ⟨rfl, rfl⟩)
    go_loop [4] (fun v => v = .int .i64 0) (fun v => 0)
    case atStart => exact rfl
    case round =>
      obtain rfl := hrel
      go_wp2_with fail
      go_loop [0, 5] (fun x v => x = .string ⟨#[]⟩ ∧ v = .slice none 0 0) (fun _ v => 0)
      case atStart => exact ⟨rfl, rfl⟩
      case round =>
        obtain ⟨rfl, rfl⟩ := hrel
        go_wp2_with fail
        go_ret2
        exact ⟨_, rfl, (Rec.start _).lines, Below.refl _ _⟩
  · have h0' : 0 < s.size := by omega
    have he := nonempty (s := s) (by omega)
    have he2 := size_ne h0'
    have hsz1 : (1 : Int) ≤ (s.size : Int) := by omega
    rw [whole_last h0'] at hw
    obtain ⟨l1, l2⟩ := last_ten h0' hw
    have HP := Lib.hid hp
    have HW := Lib.hid hw
    clear hp hw
    go_enter Tryd.func14, Tryd.ntmps14
    go_wp2_with (go_at_call 26; (with_reducible refine (hcount _).mono ?_); rintro e w' ⟨rfl, rfl⟩)
    go_loop [4] (fun v => ∃ m : Nat, m ≤ s.size ∧ v = .int .i64 m) (fun v => s.size - (intOf v).toNat)
    case atStart => exact ⟨0, Nat.zero_le _, rfl⟩
    case round =>
      obtain ⟨m, hm, rfl⟩ := hrel
      by_cases hlm : m < s.size
      · have hlm' : (m : Int) < (s.size : Int) := by omega
        have hok : okByte s[m] = true := List.all_eq_true.1 HP.out _ (List.mem_iff_getElem.2 ⟨m, by rw [Array.length_toList]; exact hlm, rfl⟩)
        have hk2 := okByte_iff.1 hok
        clear hok l1 l2
        go_wp2_with fail
        all_goals first
          | exact ⟨⟨m + 1, by omega, by go_num⟩, by simp [intOf]; omega⟩
          | (exfalso; omega)
          | (exfalso; rename_i h9; simp at h9; omega)
          | (exfalso; rename_i h9 _; simp at h9; omega)
      · obtain rfl : m = s.size := by omega
        have hE : Ends s.data.toList := by
          right
          rw [List.getLast?_eq_getElem?, Array.length_toList]
          have h3 : s.data.toList[s.data.size - 1]? = some s[s.size - 1] := by
            rw [List.getElem?_eq_getElem (by rw [Array.length_toList]; show s.size - 1 < s.size; omega)]
            rfl
          rw [h3]
          have := HW.out
          rw [beq_iff_eq] at this
          rw [this]
        have HE := Lib.hid hE
        clear hE
        go_wp2_with fail
        go_loopw [0, 5] (fun x v wr => ∃ (t : ByteArray) (ls : List (List ByteArray)), x = .string t ∧ Ends t.data.toList ∧ t.data.toList.all okByte = true ∧ t.size ≤ 16384 ∧ ls ++ linesB t.data.toList = linesB s.data.toList ∧ Rec w wr.heap.size ls v wr) (fun x _ _ => strSz x)
        case atStart => exact ⟨s, [], rfl, HE.out, HP.out, hs, rfl, Rec.start w⟩
        case round =>
          obtain ⟨t, ls, rfl, hEt, hpt, hts, hlt, hR⟩ := hrel
          have HLT := Lib.hid hlt
          clear hlt
          by_cases ht0 : t.size = 0
          · have e1 : t.data.toList = [] := List.eq_nil_of_length_eq_zero (by simpa using ht0)
            have et : t.toList.isEmpty = true := by rw [isEmpty_data, e1]; rfl
            have et2 : t.toList = [] := by rw [Lib.toList_data]; exact e1
            have hls := HLT.out
            rw [e1, show linesB [] = [] from rfl, List.append_nil] at hls
            have HLS := Lib.hid hls
            have HR := Lib.hid hR
            obtain ⟨pv, nv, cv, rfl⟩ : ∃ p n c, u5 = .slice p n c := by
              obtain ⟨vs, h1, _⟩ := hR.own
              rcases h1.2 with ⟨rfl, _⟩ | ⟨g, cap, cur, rfl, _⟩
              · exact ⟨_, _, _, rfl⟩
              · exact ⟨_, _, _, rfl⟩
            clear hls hR ht0 e1
            go_wp2_with fail
            go_ret2
            exact ⟨_, rfl, by rw [← HLS.out]; exact HR.out.lines, HR.out.below⟩
          · have htn : t.data.toList ≠ [] := fun e => ht0 (by have := congrArg List.length e; simpa using this)
            obtain ⟨i, hi, hil⟩ := hEt.hit htn
            have het := nonempty ht0
            have het2 := size_ne (s := t) (by omega)
            have hil' : i < t.size := by simpa using hil
            have HI : Hid (∀ w, Calls Tryd.prog 33 #[.string t, .int .u8 10] w fun e w' => e = .returned (.int .i64 i) ∧ w = w') := fun w =>
              (Tryd.strings_IndexByte t 10 w).mono fun e w' ⟨he, hw⟩ => ⟨by rw [he, show Lib.indexByte t.data.toList (10 : Int).toNat.toUInt8 = (i : Int) from hi], hw.symm⟩
            have z1 : (0 : Int) ≤ (i : Int) := by omega
            have z2 : (i : Int) + 1 ≤ (t.size : Int) := by omega
            have HLB : Hid (linesB t.data.toList = ((Lib.fields (codeOf (t.data.toList.take (i + 1)))).map (fun l => (⟨l.toArray⟩ : ByteArray))) :: linesB (t.data.toList.drop (i + 1))) := by unfold linesB; rw [linesOf_hit _ _ hi]; rfl
            have HIDX := Lib.hid hi
            have hlsl : ls.length ≤ 16384 := by
              have := congrArg List.length HLT.out
              rw [List.length_append] at this
              have h6 := linesB_len s.data.toList
              rw [show s.data.toList.length = s.size by simp] at h6
              omega
            have HH := Lib.hid (And.intro hEt hpt)
            have HR := Lib.hid hR
            have hLd : (t.extract 0 i).data.toList = t.data.toList.take i := by rw [Lib.extract_data]; simp
            have hLs : (t.extract 0 i).size = i := by rw [ByteArray.size_extract]; omega
            have hRd : (t.extract (i + 1) t.size).data.toList = t.data.toList.drop (i + 1) := Lib.extract_to_end t (i + 1)
            have hRs : (t.extract (i + 1) t.size).size < t.size := by rw [ByteArray.size_extract]; omega
            have HLD := Lib.hid hLd
            have HRD := Lib.hid hRd
            have HRS := Lib.hid hRs
            have hixl := index_lt (t.extract 0 i).data.toList 35
            have hixg := Lib.indexByte_ge (t.extract 0 i).data.toList 35
            have hit := codeOf_hit (t.extract 0 i).data.toList
            have miss := codeOf_miss (t.extract 0 i).data.toList
            rw [show (t.extract 0 i).data.toList.length = i by simpa using hLs] at hixl
            have HJ : Hid (∀ w, Calls Tryd.prog 33 #[.string (t.extract 0 i), .int .u8 35] w fun e w' => e = .returned (.int .i64 (Lib.indexByte (t.extract 0 i).data.toList 35)) ∧ w = w') := fun w =>
              (Tryd.strings_IndexByte (t.extract 0 i) 35 w).mono fun e w' ⟨he, hw⟩ => ⟨he, hw.symm⟩
            generalize Lib.indexByte (t.extract 0 i).data.toList 35 = ix at *
            have HIT := Lib.hid hit
            have HMISS := Lib.hid miss
            clear hi hil htn hEt hpt hR ht0 hLd hRd hRs hit miss
            by_cases h5 : 0 ≤ ix
            · obtain ⟨k, rfl⟩ := Int.eq_ofNat_of_zero_le h5
              have hk1 : (k : Int) + 1 ≤ (i : Int) := by omega
              have hc : ((t.extract 0 i).extract 0 k).data.toList = codeOf (t.data.toList.take i) := by
                rw [← HLD.out, HIT.out k rfl, Lib.extract_data]; simp
              have HC := Lib.hid hc
              clear hc
              go_wp2_with (go_at_call 33; first
                | ((with_reducible refine (HI.out _).mono ?_); rintro e w' ⟨rfl, rfl⟩)
                | ((with_reducible refine (HJ.out _).mono ?_); rintro e w' ⟨rfl, rfl⟩))
              have hcs : ((t.extract 0 i).extract 0 k).size ≤ 16384 := by rw [ByteArray.size_extract]; omega
              have hPL : Hid ((Lib.splitB ⟨#[32]⟩ 0 (Lib.countB ((t.extract 0 i).extract 0 k) ⟨#[32]⟩) ((t.extract 0 i).extract 0 k)).filter ne = (Lib.fields (codeOf (t.data.toList.take (i + 1)))).map (fun l => ⟨l.toArray⟩)) := piece_line HC.out HH.out.2 HIDX.out
              have hlen : Hid ((Lib.splitB ⟨#[32]⟩ 0 (Lib.countB ((t.extract 0 i).extract 0 k) ⟨#[32]⟩) ((t.extract 0 i).extract 0 k)).length = Lib.countB ((t.extract 0 i).extract 0 k) ⟨#[32]⟩ + 1) := Lib.splitB_all ⟨#[32]⟩ (by decide) 0 _ _ rfl
              have hcb := Lib.countB_le ⟨#[32]⟩ (by decide) ((t.extract 0 i).extract 0 k).size ((t.extract 0 i).extract 0 k) (Nat.le_refl _)
              generalize ((t.extract 0 i).extract 0 k) = c at *
              have hSP := splitSp_any c wr (by omega)
              generalize Lib.splitB ⟨#[32]⟩ 0 (Lib.countB c ⟨#[32]⟩) c = P at *
              generalize Lib.countB c ⟨#[32]⟩ = cb at *
              have HSP := Lib.hid hSP
              clear hSP
              refine HSP.out.mono ?_
              rintro e w3 ⟨rfl, hw3⟩
              have hb3 : Below wr.heap.size wr w3 := by rw [hw3]; exact (Below.refl _ _).alloc (Nat.le_refl _) _
              have hz3 : wr.heap.size < w3.heap.size := by rw [hw3]; simp
              have hcl : ∀ j x, P[j]? = some x → w3.cell? ⟨wr.heap.size, j, none⟩ = some (.string x) := fun j x hx => by
                rw [hw3]; simp [hx]
              have HR3 := Lib.hid (HR.out.keep hb3).top
              have HCL := Lib.hid hcl
              clear hcl hb3 hw3 HSP
              have hsz3 := HR3.out.below.size
              generalize wr.heap.size = pb at *
              go_wp2_with fail
              go_loopw [9, 73] (fun v7 x wi => ∃ (u7 : Value) (j : Nat), u7 = v7 ∧ j ≤ cb + 1 ∧ x = .int .i64 j ∧ wi.ownsRow w3.heap.size 9 1 u7 ((P.take j).filter ne).length (((P.take j).filter ne).map Value.string) ∧ Rec w w3.heap.size ls u5 wi ∧ Below w3.heap.size w3 wi) (fun _ x _ => cb + 1 - (intOf x).toNat)
              case atStart => exact ⟨_, 0, rfl, Nat.zero_le _, rfl, World.ownsRow_nil _ _ _ _, HR3.out, Below.refl _ _⟩
              case round =>
                obtain ⟨v7, j, rfl, hj, rfl, h7, hRi, hbi⟩ := hrel
                have HRI := Lib.hid hRi
                have HBI := Lib.hid hbi
                have hzi := hbi.size
                clear hRi hbi
                by_cases hjl : j < cb + 1
                · obtain ⟨x, hx⟩ : ∃ x, P[j]? = some x := ⟨_, List.getElem?_eq_getElem (by rw [hlen.out]; exact hjl)⟩
                  have hcx : wr.cell? ⟨pb, j, none⟩ = some (.string x) := by
                    rw [HBI.out.cell (by show pb < _; omega)]
                    exact HCL.out j x hx
                  have HF := Lib.hid (filter_take_succ (f := ne) hx)
                  have hll : ((P.take j).filter ne).length ≤ j := Nat.le_trans (List.length_filter_le _ _) (List.length_take_le _ _)
                  have z3 : (j : Int) < (cb : Int) + 1 := by omega
                  have z4 : (0 : Int) ≤ (j : Int) := by omega
                  clear hx
                  by_cases hx0 : x.size = 0
                  · have hne : ne x = false := by
                      have : x.data.toList.length = 0 := by simpa using hx0
                      rw [ne, List.eq_nil_of_length_eq_zero this]; rfl
                    have HF2 := Lib.hid (show (P.take (j + 1)).filter ne = (P.take j).filter ne by rw [HF.out, hne]; simp)
                    have hx1 : x.toList.isEmpty = true := by
                      rw [isEmpty_data]
                      have : x.data.toList.length = 0 := by simpa using hx0
                      rw [List.eq_nil_of_length_eq_zero this]; rfl
                    have H7 := Lib.hid h7
                    clear hx0 hne h7 HF
                    go_wp2_with fail
                    go_roundw
                    case rel => exact ⟨_, j + 1, rfl, by omega, by go_num, by rw [HF2.out]; exact H7.out, HRI.out, HBI.out⟩
                    case measure => simp [intOf]; omega
                  · have hx1 := nonempty hx0
                    have hx2 := size_ne (s := x) (by omega)
                    have hne : ne x = true := by
                      rw [ne, ← isEmpty_data, hx1]; rfl
                    have HF2 := Lib.hid (show (P.take (j + 1)).filter ne = (P.take j).filter ne ++ [x] by rw [HF.out, hne]; simp)
                    clear hx0 hne HF
                    generalize hQ : (P.take j).filter ne = Q at *
                    clear hQ
                    go_wp2_with (first | (at_builtin; refine wpList_append_own _ rfl _ _ 25 rfl w3.heap.size 9 i0 (.string ⟨#[]⟩) 1 16 Tryd.underlying25 hi0 hz0 hz1 hz2 rfl (by decide) _ _ _ rfl (h7.alloc _) ⟨wr.heap.size, 0, none⟩ 1 1 [.string x] rfl rfl ?c1 ?c2 ?c3 ?c4 ?c5 ?_))
                    case c1 => exact cell_one_new _ _ _
                    case c2 => intro u hu; simp at hu; subst hu; rfl
                    case c3 => unfold maxLen; omega
                    case c4 => omega
                    case c5 => rw [World.size_alloc]; omega
                    intro v7' w7 hown7 hgrow7 _
                    have HR7 := Lib.hid (Rec.word HRI.out h7 hown7 hgrow7)
                    have HB7 := Lib.hid ((HBI.out.alloc hzi _).grown hgrow7 (by rw [World.size_alloc]; omega) (fun r e => (h7.lt r e).1))
                    have H8 := Lib.hid (show w7.ownsRow w3.heap.size 9 1 v7' (Q ++ [x]).length ((Q ++ [x]).map Value.string) by rw [List.length_append, List.map_append]; exact hown7)
                    clear hown7 hgrow7 h7
                    go_wp2_with fail
                    go_roundw
                    case rel => exact ⟨_, j + 1, rfl, by omega, by go_num, by rw [HF2.out]; exact H8.out, HR7.out, HB7.out⟩
                    case measure => simp [intOf]; omega
                · obtain rfl : j = cb + 1 := by omega
                  have hPt : P.take (cb + 1) = P := List.take_of_length_le (by rw [hlen.out]; exact Nat.le_refl _)
                  rw [hPt, hPL.out] at h7
                  clear hPt
                  obtain ⟨vs, h4, hvs⟩ := HRI.out.own
                  have hlw := HRI.out.below.size
                  obtain ⟨p7, n7, c7, rfl⟩ := own_slice7 h7
                  go_wp2_with (first | (at_builtin; refine wpList_append_own _ rfl _ _ 22 rfl w.heap.size 25 i1 (.slice none 0 0) 1 24 Tryd.underlying22 hi1 hy0 hy1 hy2 rfl (by decide) _ _ _ rfl (h4.alloc _) ⟨wr.heap.size, 0, none⟩ 1 1 [.slice p7 n7 c7] rfl rfl ?c1 ?c2 ?c3 ?c4 ?c5 ?_))
                  case c1 => exact cell_one_new _ _ _
                  case c2 => intro u hu; simp at hu; subst hu; rfl
                  case c3 => unfold maxLen; omega
                  case c4 => omega
                  case c5 => rw [World.size_alloc]; omega
                  intro v4' w7 hown hgrow _
                  have HR7 := Lib.hid (Rec.line HRI.out h4 hvs h7 hown hgrow)
                  clear hown hgrow h4 hvs h7
                  go_wp2_with fail
                  go_roundw
                  case rel => exact ⟨_, _, rfl, by rw [HRD.out]; exact HH.out.1.drop _, by rw [HRD.out]; exact all_drop HH.out.2 _, by have := HRS.out; omega, by rw [HRD.out, ← HLT.out, List.append_assoc]; rw [HLB.out]; rfl, HR7.out⟩
                  case measure => exact HRS.out
            · have hc : (t.extract 0 i).data.toList = codeOf (t.data.toList.take i) := by
                rw [← HLD.out, HMISS.out (by omega)]
              have HC := Lib.hid hc
              have h5' : ¬ (0 : Int) ≤ ix := h5
              clear hc
              go_wp2_with (go_at_call 33; first
                | ((with_reducible refine (HI.out _).mono ?_); rintro e w' ⟨rfl, rfl⟩)
                | ((with_reducible refine (HJ.out _).mono ?_); rintro e w' ⟨rfl, rfl⟩))
              have hcs : (t.extract 0 i).size ≤ 16384 := by rw [ByteArray.size_extract]; omega
              have hPL : Hid ((Lib.splitB ⟨#[32]⟩ 0 (Lib.countB (t.extract 0 i) ⟨#[32]⟩) (t.extract 0 i)).filter ne = (Lib.fields (codeOf (t.data.toList.take (i + 1)))).map (fun l => ⟨l.toArray⟩)) := piece_line HC.out HH.out.2 HIDX.out
              have hlen : Hid ((Lib.splitB ⟨#[32]⟩ 0 (Lib.countB (t.extract 0 i) ⟨#[32]⟩) (t.extract 0 i)).length = Lib.countB (t.extract 0 i) ⟨#[32]⟩ + 1) := Lib.splitB_all ⟨#[32]⟩ (by decide) 0 _ _ rfl
              have hcb := Lib.countB_le ⟨#[32]⟩ (by decide) (t.extract 0 i).size (t.extract 0 i) (Nat.le_refl _)
              generalize (t.extract 0 i) = c at *
              have hSP := splitSp_any c wr (by omega)
              generalize Lib.splitB ⟨#[32]⟩ 0 (Lib.countB c ⟨#[32]⟩) c = P at *
              generalize Lib.countB c ⟨#[32]⟩ = cb at *
              have HSP := Lib.hid hSP
              clear hSP
              refine HSP.out.mono ?_
              rintro e w3 ⟨rfl, hw3⟩
              have hb3 : Below wr.heap.size wr w3 := by rw [hw3]; exact (Below.refl _ _).alloc (Nat.le_refl _) _
              have hz3 : wr.heap.size < w3.heap.size := by rw [hw3]; simp
              have hcl : ∀ j x, P[j]? = some x → w3.cell? ⟨wr.heap.size, j, none⟩ = some (.string x) := fun j x hx => by
                rw [hw3]; simp [hx]
              have HR3 := Lib.hid (HR.out.keep hb3).top
              have HCL := Lib.hid hcl
              clear hcl hb3 hw3 HSP
              have hsz3 := HR3.out.below.size
              generalize wr.heap.size = pb at *
              go_wp2_with fail
              go_loopw [9, 73] (fun v7 x wi => ∃ (u7 : Value) (j : Nat), u7 = v7 ∧ j ≤ cb + 1 ∧ x = .int .i64 j ∧ wi.ownsRow w3.heap.size 9 1 u7 ((P.take j).filter ne).length (((P.take j).filter ne).map Value.string) ∧ Rec w w3.heap.size ls u5 wi ∧ Below w3.heap.size w3 wi) (fun _ x _ => cb + 1 - (intOf x).toNat)
              case atStart => exact ⟨_, 0, rfl, Nat.zero_le _, rfl, World.ownsRow_nil _ _ _ _, HR3.out, Below.refl _ _⟩
              case round =>
                obtain ⟨v7, j, rfl, hj, rfl, h7, hRi, hbi⟩ := hrel
                have HRI := Lib.hid hRi
                have HBI := Lib.hid hbi
                have hzi := hbi.size
                clear hRi hbi
                by_cases hjl : j < cb + 1
                · obtain ⟨x, hx⟩ : ∃ x, P[j]? = some x := ⟨_, List.getElem?_eq_getElem (by rw [hlen.out]; exact hjl)⟩
                  have hcx : wr.cell? ⟨pb, j, none⟩ = some (.string x) := by
                    rw [HBI.out.cell (by show pb < _; omega)]
                    exact HCL.out j x hx
                  have HF := Lib.hid (filter_take_succ (f := ne) hx)
                  have hll : ((P.take j).filter ne).length ≤ j := Nat.le_trans (List.length_filter_le _ _) (List.length_take_le _ _)
                  have z3 : (j : Int) < (cb : Int) + 1 := by omega
                  have z4 : (0 : Int) ≤ (j : Int) := by omega
                  clear hx
                  by_cases hx0 : x.size = 0
                  · have hne : ne x = false := by
                      have : x.data.toList.length = 0 := by simpa using hx0
                      rw [ne, List.eq_nil_of_length_eq_zero this]; rfl
                    have HF2 := Lib.hid (show (P.take (j + 1)).filter ne = (P.take j).filter ne by rw [HF.out, hne]; simp)
                    have hx1 : x.toList.isEmpty = true := by
                      rw [isEmpty_data]
                      have : x.data.toList.length = 0 := by simpa using hx0
                      rw [List.eq_nil_of_length_eq_zero this]; rfl
                    have H7 := Lib.hid h7
                    clear hx0 hne h7 HF
                    go_wp2_with fail
                    go_roundw
                    case rel => exact ⟨_, j + 1, rfl, by omega, by go_num, by rw [HF2.out]; exact H7.out, HRI.out, HBI.out⟩
                    case measure => simp [intOf]; omega
                  · have hx1 := nonempty hx0
                    have hx2 := size_ne (s := x) (by omega)
                    have hne : ne x = true := by
                      rw [ne, ← isEmpty_data, hx1]; rfl
                    have HF2 := Lib.hid (show (P.take (j + 1)).filter ne = (P.take j).filter ne ++ [x] by rw [HF.out, hne]; simp)
                    clear hx0 hne HF
                    generalize hQ : (P.take j).filter ne = Q at *
                    clear hQ
                    go_wp2_with (first | (at_builtin; refine wpList_append_own _ rfl _ _ 25 rfl w3.heap.size 9 i0 (.string ⟨#[]⟩) 1 16 Tryd.underlying25 hi0 hz0 hz1 hz2 rfl (by decide) _ _ _ rfl (h7.alloc _) ⟨wr.heap.size, 0, none⟩ 1 1 [.string x] rfl rfl ?c1 ?c2 ?c3 ?c4 ?c5 ?_))
                    case c1 => exact cell_one_new _ _ _
                    case c2 => intro u hu; simp at hu; subst hu; rfl
                    case c3 => unfold maxLen; omega
                    case c4 => omega
                    case c5 => rw [World.size_alloc]; omega
                    intro v7' w7 hown7 hgrow7 _
                    have HR7 := Lib.hid (Rec.word HRI.out h7 hown7 hgrow7)
                    have HB7 := Lib.hid ((HBI.out.alloc hzi _).grown hgrow7 (by rw [World.size_alloc]; omega) (fun r e => (h7.lt r e).1))
                    have H8 := Lib.hid (show w7.ownsRow w3.heap.size 9 1 v7' (Q ++ [x]).length ((Q ++ [x]).map Value.string) by rw [List.length_append, List.map_append]; exact hown7)
                    clear hown7 hgrow7 h7
                    go_wp2_with fail
                    go_roundw
                    case rel => exact ⟨_, j + 1, rfl, by omega, by go_num, by rw [HF2.out]; exact H8.out, HR7.out, HB7.out⟩
                    case measure => simp [intOf]; omega
                · obtain rfl : j = cb + 1 := by omega
                  have hPt : P.take (cb + 1) = P := List.take_of_length_le (by rw [hlen.out]; exact Nat.le_refl _)
                  rw [hPt, hPL.out] at h7
                  clear hPt
                  obtain ⟨vs, h4, hvs⟩ := HRI.out.own
                  have hlw := HRI.out.below.size
                  obtain ⟨p7, n7, c7, rfl⟩ := own_slice7 h7
                  go_wp2_with (first | (at_builtin; refine wpList_append_own _ rfl _ _ 22 rfl w.heap.size 25 i1 (.slice none 0 0) 1 24 Tryd.underlying22 hi1 hy0 hy1 hy2 rfl (by decide) _ _ _ rfl (h4.alloc _) ⟨wr.heap.size, 0, none⟩ 1 1 [.slice p7 n7 c7] rfl rfl ?c1 ?c2 ?c3 ?c4 ?c5 ?_))
                  case c1 => exact cell_one_new _ _ _
                  case c2 => intro u hu; simp at hu; subst hu; rfl
                  case c3 => unfold maxLen; omega
                  case c4 => omega
                  case c5 => rw [World.size_alloc]; omega
                  intro v4' w7 hown hgrow _
                  have HR7 := Lib.hid (Rec.line HRI.out h4 hvs h7 hown hgrow)
                  clear hown hgrow h4 hvs h7
                  go_wp2_with fail
                  go_roundw
                  case rel => exact ⟨_, _, rfl, by rw [HRD.out]; exact HH.out.1.drop _, by rw [HRD.out]; exact all_drop HH.out.2 _, by have := HRS.out; omega, by rw [HRD.out, ← HLT.out, List.append_assoc]; rw [HLB.out]; rfl, HR7.out⟩
                  case measure => exact HRS.out
end Go.Proofs.YtainjdmgncicmaaDoor
