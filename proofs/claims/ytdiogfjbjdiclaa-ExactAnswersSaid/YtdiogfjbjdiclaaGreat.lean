/- greatestFirst. -/
import Derived.Test.YtdiogfjbjdiclaaSortB
import Derived.Deep.OwnRows
import Derived.Lib.Hide
namespace Go.Proofs.Ytdiogfjbjdiclaa
open Go.RowKit Go.Sort Go.Shelf
variable {k : Nat}

theorem info_int : (Try.prog.info? 3).map (fun i => (i.zero, i.size, i.bytes)) = some (some (.int .i64 0), 1, 8) := by kernel_rfl
theorem info_u64 : (Try.prog.info? 49).map (fun i => (i.zero, i.size, i.bytes)) = some (some (.int .u64 0), 1, 8) := by kernel_rfl

/-- Before its sort: the world w2 holds the remainders' box, and the indices 0, 1, .. in a row of its own. -/
structure GreatPre (w w2 : World) (n rb ro rc j : Nat) : Prop where
  below : Below w.heap.size w w2
  size : w.heap.size + 2 = w2.heap.size
  box : w2.cell? ⟨w.heap.size, 0, none⟩ = some (.slice (some ⟨rb, ro, none⟩) n rc)
  row : w2.rowIs (w.heap.size + 1) 3 n (fun q => .int .i64 (if q < j then (q : Int) else 0))

set_option maxHeartbeats 400000 in
theorem greatest_of (n : Nat) (hn : n < 65) (rb ro rc : Nat) (w : World) (Q : World → Prop)
    (hS : ∀ w2, GreatPre w w2 n rb ro rc n → Calls Try.prog 40 #[.slice (some ⟨w.heap.size + 1, 0, none⟩) n n, .func (.func 41) #[] #[.pointer (some ⟨w.heap.size, 0, none⟩)]] w2 fun e w' => e = .returned (.tuple #[]) ∧ Q w') :
    Calls Try.prog 38 #[.slice (some ⟨rb, ro, none⟩) n rc] w fun e w' => e = .returned (.slice (some ⟨w.heap.size + 1, 0, none⟩) n n) ∧ Q w' := by
  have hmk := fun w => run_make_row' (P := Try.prog) 22 3 (.int .i64 0) 8 Try.underlying22 info_int rfl .i64 .i64 n (by omega) (by omega) w
  have hS' := Lib.hid hS
  clear hS
  go_enter Try.func38, Try.ntmps38
  go_wp2
  have P0 : GreatPre w ((w.alloc (Obj.cells #[Value.slice (some ⟨rb, ro, none⟩) n rc] 63)).alloc (Obj.cells (madeCells #[Value.int IntKind.i64 0] n) 3)) n rb ro rc 0 :=
    ⟨((Below.refl _ _).alloc (Nat.le_refl _) _).alloc (by simp) _, by simp, by simp,
      by simpa using World.rowIs_made (w.alloc (Obj.cells #[Value.slice (some ⟨rb, ro, none⟩) n rc] 63)) (.int .i64 0) n 3⟩
  clear hmk
  generalize (w.alloc (Obj.cells #[Value.slice (some ⟨rb, ro, none⟩) n rc] 63)).alloc (Obj.cells (madeCells #[Value.int IntKind.i64 0] n) 3) = w2 at P0 ⊢
  go_loopw [4, 10] (fun _ v wr => ∃ j : Nat, j ≤ n ∧ v = .int .i64 j ∧ GreatPre w wr n rb ro rc j) (fun _ v _ => n - (intOf v).toNat)
  case atStart => exact ⟨0, Nat.zero_le _, rfl, P0⟩
  case round =>
    clear P0
    obtain ⟨j, hj, rfl, P1⟩ := hrel
    by_cases hlt : j < n
    · have hc := P1.row.cell hlt
      have hf := P1.row.frozen j
      have hfin : GreatPre w (wr.setCell ⟨w.heap.size + 1, j, none⟩ (.int .i64 j)) n rb ro rc (j + 1) :=
        ⟨P1.below.setCell (by simp) _, by simpa using P1.size, by
          rw [World.cell?_setCell_other _ _ _ _ (by intro e; simp only [Addr.mk.injEq] at e; omega)]; exact P1.box,
          (P1.row.set j (.int .i64 j)).congr (by
            intro q hq
            by_cases e : q = j
            · simp [e]
            · by_cases e2 : q < j
              · have : q < j + 1 := by omega
                simp [e, e2, this]
              · have : ¬ q < j + 1 := by omega
                simp [e, e2, this])⟩
      clear P1
      go_wp2
      go_roundw
      case rel => exact ⟨j + 1, by omega, by go_num, hfin⟩
      case measure => simp [intOf]; omega
    · obtain rfl : j = n := by omega
      go_wp2_with (go_at_call 40; refine (hS'.out _ P1).mono ?_; rintro e w' ⟨rfl, hQ⟩)
      go_ret
      exact ⟨rfl, hQ⟩

end Go.Proofs.Ytdiogfjbjdiclaa
