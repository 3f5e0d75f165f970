/- Working days: package calendar's, where the free days are sorted and searched. -/
import Derived.Test.YtcgeflblcpdnkaaCC
import Derived.Test.YtcgeflblcpdnkaaShelf
import Derived.Lib.OwnBridge
import Derived.Sort.Grow
namespace Go.Proofs.Ytcgeflblcpdnkaa
open Go.RowKit Go.Sort

def freeL (n : Nat) (g : Nat → Int) : List Int := (List.range n).map g
theorem freeL_length (n : Nat) (g : Nat → Int) : (freeL n g).length = n := by simp [freeL]
theorem freeL_getD {n j : Nat} (g : Nat → Int) (h : j < n) : (freeL n g).getD j 0 = g j := by
  simp [freeL, List.getD_eq_getElem?_getD, h]
def hasB (n : Nat) (g : Nat → Int) (d : Int) : Bool := (freeL n g).contains d
theorem hasB_zero (g : Nat → Int) (d : Int) : hasB 0 g d = false := rfl
theorem hasB_iff {n : Nat} {g : Nat → Int} {d : Int} : hasB n g d = true ↔ ∃ j, j < n ∧ g j = d := by
  simp [hasB, freeL]
def workB (n : Nat) (g : Nat → Int) (d : Int) : Bool := decide (d % 7 < 5) && !hasB n g d
/-- How many of k numbers from a on are such. -/
def cntW (P : Int → Bool) (a : Int) : Nat → Int
  | 0 => 0
  | k + 1 => cntW P a k + if P (a + k) then 1 else 0
theorem cntW_bd (P : Int → Bool) (a : Int) (k : Nat) : 0 ≤ cntW P a k ∧ cntW P a k ≤ k := by
  induction k with
  | zero => simp [cntW]
  | succ k ih => simp only [cntW]; split <;> omega
def workI (a b : Int) (n : Nat) (g : Nat → Int) : Int × Int :=
  if 0 ≤ a ∧ a ≤ b ∧ b ≤ 36865 then if 400 < n then (0, 1) else (cntW (workB n g) a (b - a).toNat, 0) else (0, 9)

def Finds (w : World) (v : Value) (n : Nat) (g : Nat → Int) : Prop :=
  ∀ q x, Calls Try.prog 30 #[v, .int .i64 x] (w.drewN q) fun e w' => (∃ c, e = .returned (.tuple #[.int .i64 c, .bool (hasB n g x)])) ∧ ∃ q', w' = w.drewN q'
def SortedOk (w w2 : World) (v : Value) (n : Nat) (g : Nat → Int) : Prop := ∃ w1 q, w2 = w1.drewN q ∧ Below w.heap.size w w1 ∧ Finds w1 v n g
theorem SortedOk.calls {w w2 : World} {v : Value} {n : Nat} {g : Nat → Int} (h : SortedOk w w2 v n g) (x : Int) :
    Calls Try.prog 30 #[v, .int .i64 x] w2 fun e w' => (∃ c, e = .returned (.tuple #[.int .i64 c, .bool (hasB n g x)])) ∧ SortedOk w w' v n g := by
  obtain ⟨w1, q, rfl, hb, hf⟩ := h
  exact (hf q x).mono fun e w' ⟨he, q', hw⟩ => ⟨he, w1, q', hw, hb, hf⟩
theorem SortedOk.below {w w2 : World} {v : Value} {n : Nat} {g : Nat → Int} (h : SortedOk w w2 v n g) : Below w.heap.size w w2 := by
  obtain ⟨w1, q, rfl, hb, hf⟩ := h
  exact below_drewN hb q

/-- What is cloned: a slice that can be sorted. -/
def ClonedOk (w w1 : World) (v : Value) (n : Nat) (g : Nat → Int) : Prop :=
  Calls Try.prog 29 #[v] w1 fun e w2 => e = .returned (.tuple #[]) ∧ SortedOk w w2 v n g

theorem finds_zero (w : World) (a : Option Addr) (c : Nat) (g : Nat → Int) : Finds w (.slice a 0 c) 0 g := fun q x =>
  (Try.slices_BinarySearch_int_empty a c x _).mono fun e w' ⟨he, hw⟩ => ⟨⟨0, he.trans (by rw [hasB_zero])⟩, q, hw⟩

theorem cloned_zero (w w1 : World) (a : Option Addr) (c : Nat) (g : Nat → Int) (hb : Below w.heap.size w w1) : ClonedOk w w1 (.slice a 0 c) 0 g :=
  (Try.slices_Sort_int_none a c w1).mono fun e w2 ⟨he, hw⟩ => ⟨he, w1, 0, hw, hb, finds_zero _ a c g⟩

theorem finds_row (w : World) (b c n : Nat) (g : Nat → Int) (l : List Int) (hn : n < 4611686018427387904) (hl : l.length = n) (hc : ∀ j, j < l.length → w.cell? ⟨b, 0 + j, none⟩ = some (.int .i64 (l.getD j 0))) (hs : l.Pairwise (· ≤ ·)) (hp : l.Perm (freeL n g)) :
    Finds w (.slice (some ⟨b, 0, none⟩) n c) n g := fun q x => by
  have ht : l.take n = l := List.take_of_length_le (by omega)
  have hm : l.contains x = hasB n g x := by
    rw [hasB, Bool.eq_iff_iff]
    simp only [List.contains_iff_mem]
    exact hp.mem_iff
  refine (Try.slices_BinarySearch_int b 0 n c l x (w.drewN q) (by omega) hn (fun j hj => hc j hj) (by rw [ht]; exact hs)).mono fun e w' ⟨he, q', hw⟩ => ⟨⟨_, he.trans (by rw [ht, hm])⟩, _, hw.trans (World.drewN_drewN _ _ _)⟩

theorem below_grow {B : Nat} {w0 w : World} (h : Below B w0 w) (hB : B ≤ w0.heap.size) (os : Array Obj) : Below B w0 (grow w os) :=
  ⟨h.os, h.tape, h.output, by have := h.size; simp [grow]; omega, fun k hk => by
    have := h.size
    rw [heap_grow_old w os (by omega)]
    exact h.block k hk⟩

theorem cloned_row (w w1 : World) (v : Value) (n : Nat) (g : Nat → Int) (hn : n < 4611686018427387904) (hown : w1.ownsRow w.heap.size 3 1 v n ((freeL n g).map (Value.int .i64))) (hnn : v ≠ .slice none 0 0) (hb : Below w.heap.size w w1) : ClonedOk w w1 v n g := by
  obtain ⟨b, cap, rfl, hbg, hgl, hncap, hcm, hlen, hH⟩ := Lib.holds_of_ownsRow hown hnn
  have hsort := Try.slices_Sort_int b 0 cap (freeL n g) w1 hH hgl (by omega)
  rw [hlen] at hsort
  refine hsort.mono fun e w2 ⟨he, nn, os, hw⟩ => ⟨he, w2, 0, rfl, ?_, ?_⟩
  · rw [hw]; exact below_grow (Lib.below_putRow hb hbg) (Nat.le_refl _) os
  · have hml : ((freeL n g).mergeSort fun x y => decide (x ≤ y)).length = n := by rw [List.length_mergeSort, hlen]
    have hH2 : Holds (Value.int .i64) w2 b 0 ((freeL n g).mergeSort fun x y => decide (x ≤ y)).toArray := by
      rw [hw]
      exact holds_grow _ _ os b 0 _ (by simpa [putRow, mapBlock, Sort.ahead] using hgl) (holds_putRow _ _ b 0 _ _ (holds_ahead _ w1 nn b 0 _ hH) (by simp))
    refine finds_row w2 b cap n g _ hn hml (fun j hj => ?_) ?_ (List.mergeSort_perm _ _)
    · have := (hH2 j (by simpa using hj)).1
      rw [this, List.getD_eq_getElem?_getD]
      simp [getElem!_pos, hj]
    · have := List.pairwise_mergeSort (le := fun x y : Int => decide (x ≤ y)) (fun a b c h1 h2 => by simp at *; omega) (fun a b => by simp; omega) (freeL n g)
      exact this.imp (by simp)

/-- slices.Clone, whatever the slice. -/
theorem clone_any (v : Value) (n : Nat) (g : Nat → Int) (w : World) (hI : IntsAt .i64 w v n g) (hn : n ≤ 400) :
    Calls Try.prog 28 #[v] w fun e w' => ∃ v1, e = .returned v1 ∧ ClonedOk w w' v1 n g := by
  obtain ⟨p, cap, rfl, hm, hI⟩ := hI
  by_cases h0 : n = 0
  · subst h0
    cases p with
    | none => exact (Try.slices_Clone_int_nil 0 cap w).mono fun e w' ⟨he, hw⟩ => ⟨_, he, cloned_zero w w' none 0 g (by rw [hw]; exact Below.refl _ _)⟩
    | some a =>
      refine (Try.slices_Clone_int_zero a cap w).mono fun e w' ⟨v', he, hown, hnn, hb⟩ => ⟨v', he, ?_⟩
      exact cloned_row w w' v' 0 g (by omega) hown hnn hb
  · obtain ⟨_, b, off, rfl, _, _⟩ := hI 0 (by omega)
    refine (Try.slices_Clone_int b off n cap (freeL n g) w (by rw [freeL_length]; exact Nat.le_refl _) (by omega) (fun j hj => ?_)).mono fun e w' ⟨v', he, hown, hnn, hb⟩ => ⟨v', he, ?_⟩
    · rw [freeL_length] at hj
      obtain ⟨_, b', off', e', _, hc⟩ := hI j hj
      cases e'
      rw [freeL_getD g hj]
      exact hc
    · refine cloned_row w w' v' n g (by omega) ?_ hnn hb
      rw [List.take_of_length_le (by rw [freeL_length]; exact Nat.le_refl _)] at hown
      exact hown

set_option maxHeartbeats 400000 in
theorem calWorking_any (a b : Int) (v : Value) (n : Nat) (g : Nat → Int) (w : World) (hI : IntsAt .i64 w v n g) :
    Calls Try.prog 17 #[.int .i64 a, .int .i64 b, v] w fun e w' => e = .returned (.tuple #[.int .i64 (workI a b n g).1, .int .i64 (workI a b n g).2]) ∧ Below w.heap.size w w' := by
  by_cases h : 0 ≤ a ∧ a ≤ b ∧ b ≤ 36865
  · obtain ⟨h1, h2, h3⟩ := h
    by_cases hn : 400 < n
    · have e : workI a b n g = (0, 1) := by simp [workI, h1, h2, h3, hn]
      obtain ⟨p, cap, rfl, hm, hI⟩ := hI
      rw [e]
      unfold maxLen at hm
      have hn' : (400 : Int) < (n : Int) := by omega
      clear e hI
      go_enter Try.func17, Try.ntmps17
      go_wp2
      go_ret2
      exact ⟨rfl, Below.refl _ _⟩
    · have e : workI a b n g = (cntW (workB n g) a (b - a).toNat, 0) := by simp [workI, h1, h2, h3, hn]
      have HC := Lib.hid (clone_any v n g w hI (by omega))
      obtain ⟨p, cap, rfl, hm, hI⟩ := hI
      rw [e]
      unfold maxLen at hm
      have hn' : (n : Int) ≤ 400 := by omega
      clear e hI
      go_enter Try.func17, Try.ntmps17
      go_wp2_with (first
        | (go_at_call 28; (with_reducible refine HC.out.mono ?_); rintro e w1 ⟨v1, rfl, hcl⟩; have HL := Lib.hid hcl; clear hcl)
        | (go_at_call 29; refine Calls.mono HL.out ?_; rintro e w2 ⟨rfl, hso⟩; have HS := Lib.hid hso; clear hso))
      go_loopw [9, 10] (fun m i wr => ∃ k : Nat, a + (k : Int) ≤ b ∧ i = .int .i64 (a + k) ∧ m = .int .i64 (cntW (workB n g) a k) ∧ SortedOk w wr v1 n g) (fun _ i _ => (b - intOf i).toNat)
      case atStart => exact ⟨0, by omega, by rw [show a + ((0 : Nat) : Int) = a by omega], rfl, HS.out⟩
      case round =>
        obtain ⟨k, hk, rfl, rfl, hso⟩ := hrel
        have HS1 := Lib.hid hso
        clear hso HS
        obtain ⟨c0, c1⟩ := cntW_bd (workB n g) a k
        have c2 : a + ((k + 1 : Nat) : Int) = a + (k : Int) + 1 := by omega
        have C2 := Lib.hid c2
        clear c2
        by_cases hlt : a + (k : Int) < b
        · by_cases hw : (a + (k : Int)) % 7 < 5
          · by_cases hh : hasB n g (a + (k : Int)) = true
            · have C3 := Lib.hid (show cntW (workB n g) a (k + 1) = cntW (workB n g) a k by simp [cntW, workB, hh])
              go_wp2_with (go_at_call 30; refine Calls.mono (HS1.out.calls _) ?_; rintro e w3 ⟨⟨c, rfl⟩, hso⟩; have HS2 := Lib.hid hso; clear hso)
              go_roundw
              case rel => exact ⟨k + 1, by rw [C2.out]; omega, by rw [C2.out], by rw [C3.out], HS2.out⟩
              case measure => simp [intOf]; omega
            · have hh' : hasB n g (a + (k : Int)) = false := by simpa using hh
              have C3 := Lib.hid (show cntW (workB n g) a (k + 1) = cntW (workB n g) a k + 1 by simp [cntW, workB, hh', hw])
              clear hh
              go_wp2_with (go_at_call 30; refine Calls.mono (HS1.out.calls _) ?_; rintro e w3 ⟨⟨c, rfl⟩, hso⟩; have HS2 := Lib.hid hso; clear hso)
              go_roundw
              case rel => exact ⟨k + 1, by rw [C2.out]; omega, by rw [C2.out], by rw [C3.out], HS2.out⟩
              case measure => simp [intOf]; omega
          · have C3 := Lib.hid (show cntW (workB n g) a (k + 1) = cntW (workB n g) a k by simp [cntW, workB, hw])
            go_wp2
            go_roundw
            case rel => exact ⟨k + 1, by rw [C2.out]; omega, by rw [C2.out], by rw [C3.out], HS1.out⟩
            case measure => simp [intOf]; omega
        · have C3 := Lib.hid (show (b - a).toNat = k by omega)
          go_wp2
          go_ret2
          exact ⟨ret_ii (by rw [C3.out]) rfl, HS1.out.below⟩
  · have e : workI a b n g = (0, 9) := by simp [workI, h]
    obtain ⟨p, cap, rfl, hm, hI⟩ := hI
    rw [e]
    clear e hI
    have h' : a < 0 ∨ b < a ∨ 36865 < b := by omega
    clear h
    rcases h' with h | h | h
    all_goals
      go_enter Try.func17, Try.ntmps17
      go_wp2
      all_goals
        go_ret2
        exact ⟨rfl, Below.refl _ _⟩
end Go.Proofs.Ytcgeflblcpdnkaa
