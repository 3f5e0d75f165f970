/- slices.SortStableFunc at fewer than 20 ints, by greatestFirst's comparison. -/
import Derived.Test.YtdiogfjbjdiclaaSortA
import Derived.Test.YtdiogfjbjdiclaaStab
import Derived.Shelf.SlSortCmp.Insertion1
namespace Go.Proofs.Ytdiogfjbjdiclaa
open Go.RowKit Go.Sort Go.Shelf
variable {k : Nat}

/-- An index among k + 1 ones, as a Go int. -/
def encF (x : Fin (k + 1)) : Value := .int .i64 (x.val : Int)
/-- What the comparison of i and j returns, for the remainders rem. -/
def cfF (rem : Fin (k + 1) → Nat) (x y : Fin (k + 1)) : Int := Lib.compareInt (rem y) (rem x)
/-- The order of shares: a greater remainder first, of equal ones the lesser index. -/
def ordF (rem : Fin (k + 1) → Nat) (x y : Fin (k + 1)) : Bool := decide (rem y < rem x ∨ rem x = rem y ∧ x.val < y.val)

theorem ltOf_cfF (rem : Fin (k + 1) → Nat) (x y : Fin (k + 1)) : ltOf (cfF rem) x y = decide (rem y < rem x) := by
  unfold ltOf cfF Lib.compareInt
  by_cases h1 : rem y < rem x
  · simp [h1]
  · by_cases h2 : rem x < rem y <;> simp [h1, h2]
theorem swo_ordF (rem : Fin (k + 1) → Nat) : SWO (ordF rem) where
  irrefl x := by simp [ordF]
  trans x y z h1 h2 := by simp only [ordF, decide_eq_true_eq] at *; omega
  ntrans x y z h1 h2 := by simp only [ordF, decide_eq_false_iff_not] at *; omega

/-- The closure's box and the remainders that it reads lie in blocks of their own. -/
structure Rems (w : World) (blk B rb ro cap : Nat) (rem : Fin (k + 1) → Nat) : Prop where
  box : w.cell? ⟨B, 0, none⟩ = some (.slice (some ⟨rb, ro, none⟩) (k + 1) cap)
  hB : B ≠ blk
  hB2 : B < w.heap.size
  hrb : rb ≠ blk
  hrb2 : rb < w.heap.size
  cells : ∀ j : Fin (k + 1), w.cell? ⟨rb, ro + j.val, none⟩ = some (.int .u64 (rem j : Int))

theorem cell_sortWorld_other {α : Type} [Inhabited α] (enc : α → Value) (w : World) (blk off m : Nat) (d : Array α) (os : Array Obj) (a : Addr) (hb : a.block ≠ blk) (hs : a.block < w.heap.size) :
    (sortWorld enc w blk off m d os).cell? a = w.cell? a := by
  unfold sortWorld
  rw [cell?_grow _ _ _ (by rw [size_putRow]; exact hs)]
  rw [cell?_putRow_other _ _ _ _ _ _ (Or.inl hb)]
  rfl

theorem cmpReads_any {w : World} {blk B rb ro cap : Nat} {rem : Fin (k + 1) → Nat} (off size : Nat) (hk : k + 1 < 4611686018427387904) (R : Rems w blk B rb ro cap rem) :
    CmpReads Try.prog 41 #[.pointer (some ⟨B, 0, none⟩)] encF (cfF rem) blk off size w := by
  intro m os dk _ x y
  refine closure_any B rb ro (k + 1) cap x.val y.val (rem x) (rem y) _ ?_ x.isLt y.isLt hk ?_ ?_
  · rw [cell_sortWorld_other _ _ _ _ _ _ _ _ R.hB R.hB2]; exact R.box
  · rw [cell_sortWorld_other _ _ _ _ _ _ _ _ R.hrb R.hrb2]; exact R.cells x
  · rw [cell_sortWorld_other _ _ _ _ _ _ _ _ R.hrb R.hrb2]; exact R.cells y

/-- What SortStableFunc does to k + 1 indices that are not turned yet. -/
def StableSaid (k : Nat) : Prop := ∀ (rem : Fin (k + 1) → Nat) (w : World) (blk off cap B rb ro rc : Nat) (d : Array (Fin (k + 1))), d.size = k + 1 → Holds encF w blk off d → blk < w.heap.size →
  Rems w blk B rb ro rc rem → Agree (ltOf (cfF rem)) (ordF rem) 0 (k + 1) d →
  Calls Try.prog 40 #[.slice (some ⟨blk, off, none⟩) (k + 1 : Nat) cap, .func (.func 41) #[] #[.pointer (some ⟨B, 0, none⟩)]] w fun e w' =>
    e = .returned (.tuple #[]) ∧ ∃ d', SortedTo (ordF rem) 0 (k + 1) d d' ∧ SW encF w blk off d' w'

theorem enters_cmp : ∀ args w, (callFunc 41 args).run Try.prog w = .ok (.enter 41 args) w := enters_of Try.func41 (by kernel_rfl) rfl

theorem insertion_any (rem : Fin (k + 1) → Nat) (w w1 : World) (blk off cap B rb ro rc a b : Nat) (d0 d : Array (Fin (k + 1))) (hk : k + 1 < 4611686018427387904) (hd0 : d0.size = k + 1) (hd : d.size = k + 1) (hH : Holds encF w blk off d0) (hblk : blk < w.heap.size)
    (R : Rems w blk B rb ro rc rem) (S : SW encF w blk off d w1) (hab : a ≤ b) (hb : b ≤ k + 1) :
    Calls Try.prog 45 #[.slice (some ⟨blk, off, none⟩) (k + 1 : Nat) cap, .int .i64 a, .int .i64 b, .func (.func 41) #[] #[.pointer (some ⟨B, 0, none⟩)]] w1 fun e w' =>
      e = .returned (.tuple #[]) ∧ SW encF w blk off (insertionSort (ltOf (cfF rem)) d a b) w' := by
  have h := Any.insertionSortCmpFunc_s Try.insL encF (cfF rem) 41 #[.pointer (some ⟨B, 0, none⟩)] blk off cap a b d0 d w w1 enters_cmp (cmpReads_any off d0.size hk R).lays ⟨fun _ => rfl, hH, hblk⟩ (by omega) S hab (by omega) (by omega)
  rw [hd] at h
  exact h

set_option maxHeartbeats 400000 in
theorem stableCmp_lt (n : Nat) (hn : n < 20) (p : Option Addr) (cap : Nat) (fv : Value) (w : World) (Q : World → Prop)
    (hi : Calls Try.prog 45 #[.slice p n cap, .int .i64 0, .int .i64 n, fv] w fun e w' => e = .returned (.tuple #[]) ∧ Q w') :
    Calls Try.prog 43 #[.slice p n cap, .int .i64 n, fv] w fun e w' => e = .returned (.tuple #[]) ∧ Q w' := by
  have hn1 : (n : Int) < 20 := by omega
  have hn2 : ¬ (20 : Int) < (n : Int) := by omega
  clear hn
  go_enter Try.func43, Try.ntmps43
  go_wp2
  go_loopw [7, 8] (fun a b wr => a = .int .i64 0 ∧ b = .int .i64 20 ∧ w = wr) (fun _ _ _ => 0)
  case atStart => exact ⟨rfl, rfl, rfl⟩
  case round =>
    obtain ⟨rfl, rfl, rfl⟩ := hrel
    go_wp2_with (go_at_call 45; refine hi.mono ?_; rintro e w' ⟨rfl, hQ⟩)
    go_loopw [6] (fun a wr => a = .int .i64 20 ∧ w' = wr) (fun _ _ => 0)
    case atStart => exact ⟨rfl, rfl⟩
    case round =>
      obtain ⟨rfl, rfl⟩ := hrel
      go_wp2
      go_end0
      exact ⟨rfl, hQ⟩

set_option maxHeartbeats 400000 in
theorem sortStable_of (n : Nat) (p : Option Addr) (cap : Nat) (fv : Value) (w : World) (Q : World → Prop)
    (hi : Calls Try.prog 43 #[.slice p n cap, .int .i64 n, fv] w fun e w' => e = .returned (.tuple #[]) ∧ Q w') :
    Calls Try.prog 40 #[.slice p n cap, fv] w fun e w' => e = .returned (.tuple #[]) ∧ Q w' := by
  go_enter Try.func40, Try.ntmps40
  go_wp2_with (go_at_call 43; refine hi.mono ?_; rintro e w' ⟨rfl, hQ⟩)
  go_end0
  exact ⟨rfl, hQ⟩

theorem stable_small (k : Nat) (hk : k + 1 < 20) : StableSaid k := by
  intro rem w blk off cap B rb ro rc d hd hH hblk R hA
  have hi := insertion_any rem w w blk off cap B rb ro rc 0 (k + 1) d d (by omega) hd hd hH hblk R (SW.start hH) (by omega) (by omega)
  refine sortStable_of (k + 1) _ cap _ w _ (stableCmp_lt (k + 1) hk _ cap _ w _ (hi.mono ?_))
  rintro e w' ⟨rfl, S⟩
  exact ⟨rfl, _, insertionSort_to _ _ (swo_ordF rem) 0 (k + 1) d (by omega) (by omega) hA, S⟩

end Go.Proofs.Ytdiogfjbjdiclaa
