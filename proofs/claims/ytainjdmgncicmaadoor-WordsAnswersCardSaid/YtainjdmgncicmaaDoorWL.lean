/- strings.Lines, as a range over a function meets it. -/
import Derived.RangeFuncNested
import Derived.RangeFuncBound
import Derived.RangeFuncCalls
import Derived.RangeFuncLeaves
import Derived.RangeFuncBox
import Derived.Shelf.Abstract
import Derived.Shelf.RegionOpen
import Derived.WalkKit
import Derived.OwnWalkIn
import Derived.TacticsInMore
import Derived.RegionIn
import Derived.LoopNIn
import Derived.LoopIn
import Derived.Maps.AppendAt
import Derived.Test.YtainjdmgncicmaaDoorWA
namespace Go.Proofs.YtainjdmgncicmaaDoor
open Go.RowKit Go.Shelf

attribute [local go_sem] Oper.semAt_some

/-- The lines of a text, each with its line feed, if it has one. -/
def linesOf : List UInt8 → List (List UInt8)
  | [] => []
  | c :: r => if c = 10 then [10] :: linesOf r else match linesOf r with
    | [] => [[c]]
    | x :: xs => (c :: x) :: xs

theorem linesOf_hit : ∀ (l : List UInt8) (i : Nat), Lib.indexByte l 10 = (i : Int) → linesOf l = l.take (i + 1) :: linesOf (l.drop (i + 1)) := by
  intro l
  induction l with
  | nil => intro i h; simp [Lib.indexByte] at h
  | cons c r ih =>
    intro i h
    unfold Lib.indexByte at h
    by_cases e : c = 10
    · subst e
      simp at h
      obtain rfl : i = 0 := by omega
      simp [linesOf]
    · have e' : (c == 10) = false := beq_eq_false_iff_ne.2 e
      rw [e'] at h
      simp only [Bool.false_eq_true, if_false] at h
      by_cases g : (Lib.indexByte r 10 == -1) = true
      · rw [if_pos g] at h; omega
      · rw [if_neg g] at h
        have g1 := Lib.indexByte_ge r 10
        have g2 : Lib.indexByte r 10 ≠ -1 := by simpa using g
        obtain ⟨k, rfl⟩ : ∃ k, i = k + 1 := ⟨i - 1, by omega⟩
        have := ih k (by omega)
        rw [linesOf, if_neg e, this]
        simp

theorem index_lt : ∀ (l : List UInt8) (c : UInt8), Lib.indexByte l c < l.length := by
  intro l c
  induction l with
  | nil => simp [Lib.indexByte]
  | cons b l ih =>
    unfold Lib.indexByte
    rw [List.length_cons]
    split
    · omega
    · split <;> omega

theorem linesOf_miss : ∀ (l : List UInt8), l ≠ [] → Lib.indexByte l 10 < 0 → linesOf l = [l] := by
  intro l
  induction l with
  | nil => intro h; exact absurd rfl h
  | cons c r ih =>
    intro _ h
    unfold Lib.indexByte at h
    by_cases e : c = 10
    · subst e; simp at h
    · have e' : (c == 10) = false := beq_eq_false_iff_ne.2 e
      rw [e'] at h
      simp only [Bool.false_eq_true, if_false] at h
      have g : Lib.indexByte r 10 = -1 := by
        by_cases g : (Lib.indexByte r 10 == -1) = true
        · simpa using g
        · rw [if_neg g] at h
          have := Lib.indexByte_ge r 10
          have : Lib.indexByte r 10 ≠ -1 := by simpa using g
          omega
      rw [linesOf, if_neg e]
      cases r with
      | nil => rfl
      | cons d r => rw [ih (by simp) (by rw [g]; decide)]

theorem linesOf_len : ∀ l : List UInt8, (linesOf l).length ≤ l.length := by
  intro l
  induction l with
  | nil => exact Nat.le_refl _
  | cons c r ih =>
    unfold linesOf
    split
    · simp; exact ih
    · split
      · simp
      · rename_i x xs e
        rw [e] at ih
        simp at ih ⊢
        omega

theorem extract_list (s : ByteArray) (i j : Nat) : (s.extract i j).data.toList = (s.data.toList.drop i).take (j - i) := by
  rw [ByteArray.data_extract, Array.toList_extract, List.extract_eq_take_drop]

/-- What is left in the box. -/
def boxLen (c : Nat) (W : World) : Nat := match W.cell? ⟨c, 0, none⟩ with
  | some (.string s) => s.size
  | _ => 0
theorem boxLen_eq {c : Nat} {W : World} {t : TypeId} {s : ByteArray} (h : Boxed W c t (.string s)) : boxLen c W = s.size := by
  unfold boxLen
  rw [h.cell]

set_option maxHeartbeats 1000000 in
set_option maxRecDepth 100000 in
theorem lines_in (l c : Nat) (s : ByteArray) (hs : s.size ≤ 4611686018427387904) (J : List ByteArray → World → Prop)
    (hJ : ∀ pre W (u v : ByteArray), J pre W → Boxed W c 9 (.string u) → J pre (W.setCell ⟨c, 0, none⟩ (.string v))) (hJd : ∀ pre W, J pre W → J pre W.drew)
    (hY : ∀ pre x W u, J pre W → Boxed W c 9 (.string u) → (∀ b ∈ x.data.toList, b ∈ s.data.toList) → x.size ≤ s.size → pre.length < (linesOf s.data.toList).length → YieldAt Fence.wide 2 Tryd.prog l #[.string x] W fun e W' =>
      e = .returned (.bool true) ∧ J (pre ++ [x]) W' ∧ Boxed W' c 9 (.string u))
    (W : World) (hb : Boxed W c 9 (.string s)) (h0 : J [] W) :
    CallsIn Fence.wide 3 Tryd.prog 52 #[.func (.yield l) #[] #[], .pointer (some ⟨c, 0, none⟩)] W fun e W' => (∃ v, e = .returned v) ∧
      ∃ xs : List ByteArray, xs.map (·.data.toList) = linesOf s.data.toList ∧ J xs W' := by
  refine callsIn_of_wp Tryd.func52 rfl trivial ?_ rfl
  simp only [Tryd.ntmps52, List.size_toArray, List.length_cons, List.length_nil, Nat.reduceAdd, Nat.reduceSub, Array.replicate_succ, Array.replicate_zero, List.push_toArray, List.append_toArray, List.nil_append, List.cons_append]
  gi_wp2
  gi_loopw [7] (fun _ wr => ∃ (pre : List ByteArray) (u : ByteArray), pre.map (·.data.toList) ++ linesOf u.data.toList = linesOf s.data.toList ∧ (∀ b ∈ u.data.toList, b ∈ s.data.toList) ∧ u.size ≤ s.size ∧ Boxed wr c 9 (.string u) ∧ J pre wr)
    (fun _ wr => boxLen c wr)
  case atStart => exact ⟨[], s, rfl, fun _ h => h, Nat.le_refl _, hb, h0⟩
  case round =>
    obtain ⟨pre, u, hl, hin, hsz, hbu, hJu⟩ := hrel
    have hcu := hbu.cell
    have hfu := hbu.frozen
    by_cases hu : u.size = 0
    · have hp : ¬ (0 : Int) < (u.size : Int) := by omega
      gi_wp2
      go_end0
      refine ⟨⟨_, rfl⟩, pre, ?_, hJu⟩
      have hn : u.data.toList = [] := List.eq_nil_of_length_eq_zero (by simpa using hu)
      rw [hn] at hl
      simpa [linesOf] using hl
    · have hp : (0 : Int) < (u.size : Int) := by omega
      have hlen : u.data.toList.length = u.size := by simp
      have hne : u.data.toList ≠ [] := fun e => by rw [e] at hlen; exact hu hlen.symm
      have hlt := index_lt u.data.toList 10
      have hge := Lib.indexByte_ge u.data.toList 10
      rw [hlen] at hlt
      have hidx := fun w => Tryd.strings_IndexByte u 10 w
      rw [show ((10 : Int).toNat.toUInt8) = 10 from rfl] at hidx
      have hit := linesOf_hit u.data.toList
      have miss := linesOf_miss u.data.toList hne
      generalize hix : Lib.indexByte u.data.toList 10 = ix at *
      by_cases h0 : 0 ≤ ix
      · obtain ⟨i, rfl⟩ := Int.eq_ofNat_of_zero_le h0
        have hi1 : i + 1 ≤ u.size := by omega
        have hi2 : (i : Int) + 1 ≤ (u.size : Int) := by omega
        gi_wp2_with (refine ⟨trivial, ?_⟩; gi_at_call 33; refine (callsIn_wide.2 (hidx _)).mono ?_; rintro e w' ⟨rfl, rfl⟩)
        gi_region
        have hx1 := extract_list u 0 (i + 1)
        have hx2 := extract_list u (i + 1) u.size
        have hs1 : (u.extract 0 (i + 1)).size = i + 1 := by simp; omega
        have hs2 : (u.extract (i + 1) u.size).size = u.size - (i + 1) := by simp
        simp only [List.drop_zero, Nat.sub_zero] at hx1
        rw [List.take_of_length_le (by rw [List.length_drop, hlen]; exact Nat.le_refl _)] at hx2
        have hlines := hit i rfl
        rw [← hx1, ← hx2] at hlines
        have hin1 : ∀ b ∈ (u.extract 0 (i + 1)).data.toList, b ∈ s.data.toList := fun b hb => hin b (by rw [hx1] at hb; exact List.mem_of_mem_take hb)
        have hin2 : ∀ b ∈ (u.extract (i + 1) u.size).data.toList, b ∈ s.data.toList := fun b hb => hin b (by rw [hx2] at hb; exact List.mem_of_mem_drop hb)
        have hb2 : Boxed ((w'.setCell ⟨c, 0, none⟩ (.string (u.extract (i + 1) u.size))).drew) c 9 (.string (u.extract (i + 1) u.size)) := hbu.set _
        have hJ2 := hJd _ _ (hJ pre _ u (u.extract (i + 1) u.size) hJu hbu)
        generalize u.extract 0 (i + 1) = x at *
        generalize u.extract (i + 1) u.size = rest at *
        obtain ⟨fn, tmps, assign, body, hy, hR⟩ := hY pre x _ rest hJ2 hb2 hin1 (by omega) (by rw [← hl, hlines]; simp)
        have hm1 := boxLen_eq hbu
        gi_wp2
        refine hR.mono ?_
        rintro e W3 ⟨rfl, hJ3, hb3⟩
        gi_wp2
        go_roundw
        case rel => exact ⟨pre ++ [x], rest, by rw [← hl, hlines]; simp, hin2, by omega, hb3, hJ3⟩
        case measure => rw [boxLen_eq hb3, hm1]; omega
      · have hb2 : Boxed (wr.setCell ⟨c, 0, none⟩ (.string ⟨#[]⟩)) c 9 (.string ⟨#[]⟩) := hbu.set _
        have hJ2 := hJ pre _ u ⟨#[]⟩ hJu hbu
        have hlines := miss (by omega)
        obtain ⟨fn, tmps, assign, body, hy, hR⟩ := hY pre u _ ⟨#[]⟩ hJ2 hb2 hin hsz (by rw [← hl, hlines]; simp)
        have hm1 := boxLen_eq hbu
        gi_wp2_with (refine ⟨trivial, ?_⟩; gi_at_call 33; refine (callsIn_wide.2 (hidx _)).mono ?_; rintro e w' ⟨rfl, rfl⟩)
        refine hR.mono ?_
        rintro e W3 ⟨rfl, hJ3, hb3⟩
        gi_wp2
        go_roundw
        case rel => exact ⟨pre ++ [u], ⟨#[]⟩, by rw [← hl, hlines]; simp [linesOf], fun b hb => by simp at hb, Nat.zero_le _, hb3, hJ3⟩
        case measure =>
          rw [boxLen_eq hb3, hm1]
          show 0 < u.size
          omega
end Go.Proofs.YtainjdmgncicmaaDoor
