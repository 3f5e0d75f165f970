/- landaidref02.Decimal: the walk; NOT CLEAN: the two drawn regions with the recursive call (ref.go:30, ref.go:35) are open (at each "done"). -/
import Derived.Test.YtainjdmgncicmaaDoorWRefD
import Derived.RegionTactic
namespace Go.Proofs.YtainjdmgncicmaaDoor
open Go.RowKit Go.Shelf

theorem one_byte_later {w w' : World} {z : Int} (hB : Below (w.alloc (.cells #[.int .u8 z] 5)).drew.heap.size (w.alloc (.cells #[.int .u8 z] 5)).drew w') : (convert 28 9 (.slice (some ⟨w.heap.size, 0, none⟩) 1 1)).run Tryd.prog w' = .ok (.string (strOfNums [z])) w' := by
  refine run_convert_bytes_arg (P := Tryd.prog) w' 28 5 Tryd.underlying28 Tryd.underlying5 w.heap.size 0 1 1 [z] rfl (fun i hi => ?_) 9 Tryd.underlying9
  obtain rfl : i = 0 := by omega
  have hc : (w.alloc (.cells #[.int .u8 z] 5)).drew.cell? ⟨w.heap.size, 0, none⟩ = some (.int .u8 z) := World.cell?_alloc_mark w #[.int .u8 z] 5 (0, 0) 0
  exact (hB.cell (p := ⟨w.heap.size, 0, none⟩) (by show w.heap.size < (w.heap.push _).size; simp)).trans hc

theorem one_byte_drew (w : World) (z : Int) : (convert 28 9 (.slice (some ⟨w.heap.size, 0, none⟩) 1 1)).run Tryd.prog (w.alloc (.cells #[.int .u8 z] 5)).drew = .ok (.string (strOfNums [z])) (w.alloc (.cells #[.int .u8 z] 5)).drew :=
  one_byte_later (Below.refl _ _)

theorem neg_z {n : Int} (h : n < 0) : IntKind.u8.wrap (IntKind.i64.wrap (48 + wrap64 (-n.tmod 10))) = wrap64 (48 + wrap64 (-n.tmod 10)) % 256 := by
  rw [IntKind.wrap_u8, IntKind.wrap_i64]
  unfold wrap64
  omega

theorem end_one {w w' : World} (hB : Below w.drew.heap.size w.drew w') (o : Obj) : Below w.heap.size w (w'.alloc o) :=
  (show Below w.heap.size w w' from ⟨hB.os, hB.tape, hB.output, hB.size, hB.block⟩).alloc hB.size o
theorem end_two {w w' : World} {o : Obj} (hB : Below (w.alloc o).drew.heap.size (w.alloc o).drew w') : Below w.heap.size w w' := by
  have h1 : Below w.heap.size w (w.alloc o) := (Below.refl _ _).alloc (Nat.le_refl _) _
  exact ⟨hB.os, hB.tape, hB.output, Nat.le_trans h1.size hB.size, fun k hk => (hB.block k (Nat.lt_of_lt_of_le hk h1.size)).trans (h1.block k hk)⟩

set_option maxHeartbeats 1000000 in
set_option maxRecDepth 100000 in
theorem refDecimal_le : ∀ (k : Nat) (n : Int), n.natAbs ≤ k → -9223372036854775808 ≤ n → n ≤ 9223372036854775807 → ∀ (w : World),
    Calls Tryd.prog 12 #[.int .i64 n] w fun e w' => e = .returned (.string ⟨(Lib.itoa n).toArray⟩) ∧ Below w.heap.size w w' := by
  have hb := one_byte
  have hb2 := one_byte_drew
  intro k
  induction k with
  | zero =>
    intro n hk h0 h1 w
    have hneg : ¬ n < 0 := by omega
    have hs : n < 10 := by omega
    have hv := dec_pos1 hneg hs
    go_enter Tryd.func12, Tryd.ntmps12
    go_wp2_with fail
    go_ret
    exact ⟨rfl, (Below.refl _ _).alloc (Nat.le_refl _) _⟩
  | succ k ih =>
    intro n hk h0 h1 w
    by_cases hneg : n < 0
    · by_cases hs : -10 < n
      · have hv := dec_neg1 hneg hs
        clear ih
        go_enter Tryd.func12, Tryd.ntmps12
        go_wp2_with fail
        go_ret
        exact ⟨rfl, (Below.refl _ _).alloc (Nat.le_refl _) _⟩
      · have hv := dec_negs hneg hs
        have e2 : n.tdiv 10 = -((n.natAbs / 10 : Nat) : Int) := by
          conv => lhs; rw [show n = -((n.natAbs : Nat) : Int) by omega]
          exact td_neg _
        have hC := fun w => ih (n.tdiv 10) (by rw [e2]; omega) (by rw [e2]; omega) (by rw [e2]; omega) w
        have hsz : (⟨(Lib.itoa (n.tdiv 10)).toArray⟩ : ByteArray).size ≤ 20 := (itoa_len _ (by rw [e2]; omega) (by rw [e2]; omega)).1
        generalize (⟨(Lib.itoa (n.tdiv 10)).toArray⟩ : ByteArray) = s at hC hsz hv
        have hwr : IntKind.i64.wrap (n.tdiv 10) = n.tdiv 10 := by
          rw [e2, IntKind.wrap_i64]; omega
        have hwm : IntKind.i64.wrap (n.tmod 10) = n.tmod 10 := by
          have h3 := Int.tmod_lt_of_pos n (b := 10) (by omega)
          have h4 : -10 < n.tmod 10 := by
            have := Int.neg_lt_of_neg_lt (a := 10) (b := n.tmod 10)
            rcases Int.le_total 0 n with hp | hp
            · have := Int.tmod_nonneg 10 hp; omega
            · have e5 : n.tmod 10 = -((n.natAbs % 10 : Nat) : Int) := by
                conv => lhs; rw [show n = -((n.natAbs : Nat) : Int) by omega]
                exact tm_neg _
              omega
          rw [IntKind.wrap_i64]; omega
        have hz1 : ∀ z : Int, (strOfNums [z]).size = 1 := fun z => strOfNums_size _
        clear ih e2
        go_enter Tryd.func12, Tryd.ntmps12
        go_wp2_with (go_at_call 12; (with_reducible refine (hC _).mono ?_); rintro e w' ⟨rfl, hB⟩; (try have hcv := one_byte_later hB))
        go_region_with (go_at_call 12; (try rw [hwr]); (with_reducible refine (hC _).mono ?_); rintro e w' ⟨rfl, hB⟩; (try have hcv := one_byte_later hB))
        all_goals go_wp2_with fail
        all_goals go_ret
        all_goals first
          | exact ⟨rfl, end_one hB _⟩
          | exact ⟨rfl, end_two hB⟩
          | exact ⟨congrArg (fun s => Ending.returned (Value.string s)) hv, end_one hB _⟩
          | exact ⟨congrArg (fun s => Ending.returned (Value.string s)) hv, end_two hB⟩
    · by_cases hs : n < 10
      · have hv := dec_pos1 hneg hs
        clear ih
        go_enter Tryd.func12, Tryd.ntmps12
        go_wp2_with fail
        go_ret
        exact ⟨rfl, (Below.refl _ _).alloc (Nat.le_refl _) _⟩
      · have hv := fun z hz => dec_poss (z := z) hneg hs hz
        have e2 : n.tdiv 10 = ((n.toNat / 10 : Nat) : Int) := by
          conv => lhs; rw [show n = ((n.toNat : Nat) : Int) by omega]
          exact td_pos _
        have hC := fun w => ih (n.tdiv 10) (by rw [e2]; omega) (by rw [e2]; omega) (by rw [e2]; omega) w
        have hsz : (⟨(Lib.itoa (n.tdiv 10)).toArray⟩ : ByteArray).size ≤ 20 := (itoa_len _ (by rw [e2]; omega) (by rw [e2]; omega)).1
        generalize (⟨(Lib.itoa (n.tdiv 10)).toArray⟩ : ByteArray) = s at hC hsz hv
        have hwr : IntKind.i64.wrap (n.tdiv 10) = n.tdiv 10 := by
          rw [e2, IntKind.wrap_i64]; omega
        have hwm : IntKind.i64.wrap (n.tmod 10) = n.tmod 10 := by
          have h3 := Int.tmod_lt_of_pos n (b := 10) (by omega)
          have h4 : -10 < n.tmod 10 := by
            have := Int.neg_lt_of_neg_lt (a := 10) (b := n.tmod 10)
            rcases Int.le_total 0 n with hp | hp
            · have := Int.tmod_nonneg 10 hp; omega
            · have e5 : n.tmod 10 = -((n.natAbs % 10 : Nat) : Int) := by
                conv => lhs; rw [show n = -((n.natAbs : Nat) : Int) by omega]
                exact tm_neg _
              omega
          rw [IntKind.wrap_i64]; omega
        have hz1 : ∀ z : Int, (strOfNums [z]).size = 1 := fun z => strOfNums_size _
        clear ih e2
        go_enter Tryd.func12, Tryd.ntmps12
        go_wp2_with fail
        go_region_with (go_at_call 12; (try rw [hwr]); (with_reducible refine (hC _).mono ?_); rintro e w' ⟨rfl, hB⟩; (try have hcv := one_byte_later hB))
        all_goals go_wp2_with fail
        all_goals go_ret
        all_goals first
          | exact ⟨congrArg (fun s => Ending.returned (Value.string s)) (hv _ (by rw [Int.tmod_eq_emod_of_nonneg (by omega)])), end_one hB _⟩
          | exact ⟨congrArg (fun s => Ending.returned (Value.string s)) (hv _ (by rw [Int.tmod_eq_emod_of_nonneg (by omega)])), end_two hB⟩

theorem refDecimal_any (n : Int) (h0 : -9223372036854775808 ≤ n) (h1 : n ≤ 9223372036854775807) (w : World) :
    Calls Tryd.prog 12 #[.int .i64 n] w fun e w' => e = .returned (.string ⟨(Lib.itoa n).toArray⟩) ∧ Below w.heap.size w w' :=
  refDecimal_le n.natAbs n (Nat.le_refl _) h0 h1 w
end Go.Proofs.YtainjdmgncicmaaDoor
