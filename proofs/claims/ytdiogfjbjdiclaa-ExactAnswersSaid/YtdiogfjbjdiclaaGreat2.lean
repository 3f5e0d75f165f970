/- greatestFirst returns its indices in the order of shares. -/
import Derived.Test.YtdiogfjbjdiclaaGreat
namespace Go.Proofs.Ytdiogfjbjdiclaa
open Go.RowKit Go.Sort Go.Shelf
variable {k : Nat}

theorem below_sortWorld {α : Type} [Inhabited α] (enc : α → Value) (w : World) (blk off m : Nat) (d : Array α) (os : Array Obj) (B : Nat) (hB : B ≤ blk) (hs : B ≤ w.heap.size) : Below B w (sortWorld enc w blk off m d os) where
  os := rfl
  tape := rfl
  output := rfl
  size := by
    unfold sortWorld
    rw [size_grow, size_putRow]
    exact Nat.le_add_right _ _
  block := by
    intro q hq
    unfold sortWorld
    rw [heap_grow_old _ _ (by rw [size_putRow]; exact (by show q < w.heap.size; omega))]
    show (w.heap.modify blk _)[q]? = w.heap[q]?
    rw [Array.getElem?_modify, if_neg (by omega)]

def idxF (k : Nat) : Array (Fin (k + 1)) := Array.ofFn fun i : Fin (k + 1) => i
theorem size_idxF : (idxF k).size = k + 1 := by simp [idxF]
theorem get_idxF (i : Nat) (h : i < k + 1) : (idxF k)[i]! = ⟨i, h⟩ := by
  rw [getElem!_pos (idxF k) i (by rw [size_idxF]; exact h)]
  simp [idxF]

theorem agree_idxF (rem : Fin (k + 1) → Nat) : Agree (ltOf (cfF rem)) (ordF rem) 0 (k + 1) (idxF k) := by
  intro p q _ hpq hq
  rw [get_idxF q hq, get_idxF p (by omega), ltOf_cfF]
  unfold ordF
  apply decide_eq_decide.2
  simp only
  omega

/-- What greatestFirst leaves: its row of indices, sorted; all else is as it was. -/
structure GreatPost (w : World) (rem : Fin (k + 1) → Nat) (w' : World) : Prop where
  below : Below w.heap.size w w'
  size : w.heap.size + 1 < w'.heap.size
  row : ∃ d', SortedTo (ordF rem) 0 (k + 1) (idxF k) d' ∧ Holds encF w' (w.heap.size + 1) 0 d'

theorem greatest_any (hS : StableSaid k) (hk : k + 1 < 65) (rem : Fin (k + 1) → Nat) (rb ro rc : Nat) (w : World) (hrb : rb < w.heap.size)
    (hcells : ∀ j : Fin (k + 1), w.cell? ⟨rb, ro + j.val, none⟩ = some (.int .u64 (rem j : Int))) :
    Calls Try.prog 38 #[.slice (some ⟨rb, ro, none⟩) (k + 1 : Nat) rc] w fun e w' =>
      e = .returned (.slice (some ⟨w.heap.size + 1, 0, none⟩) (k + 1 : Nat) (k + 1 : Nat)) ∧ GreatPost w rem w' := by
  refine greatest_of (k + 1) hk rb ro rc w _ fun w2 P => ?_
  have hH : Holds encF w2 (w.heap.size + 1) 0 (idxF k) := by
    intro j hj
    rw [size_idxF] at hj
    refine ⟨?_, P.row.frozen _⟩
    rw [Nat.zero_add, P.row.cell hj, get_idxF j hj]
    simp [encF, hj]
  have R : Rems w2 (w.heap.size + 1) w.heap.size rb ro rc rem :=
    ⟨P.box, by omega, by have := P.size; omega, by omega, by have := P.size; omega, fun j => by rw [P.below.cell (by exact hrb)]; exact hcells j⟩
  refine (hS rem w2 (w.heap.size + 1) 0 (k + 1) w.heap.size rb ro rc (idxF k) size_idxF hH (by have := P.size; omega) R (agree_idxF rem)).mono ?_
  rintro e w' ⟨rfl, d', hs, S⟩
  have hsz : d'.size = (idxF k).size := hs.1.1
  refine ⟨rfl, ?_, ?_, d', hs, S.holds (by have := P.size; omega) hH hsz⟩
  · obtain ⟨m, os, rfl⟩ := S
    exact P.below.trans (below_sortWorld _ _ _ _ _ _ _ _ (by omega) (by have := P.size; omega))
  · have := S.le
    have := P.size
    omega

end Go.Proofs.Ytdiogfjbjdiclaa
