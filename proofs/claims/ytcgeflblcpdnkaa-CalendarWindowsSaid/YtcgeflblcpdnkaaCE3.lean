/- CalendarWindows: the day is in the rest, and no day of the window follows. -/
import Derived.Test.YtcgeflblcpdnkaaCD
import Derived.Deep.RegionHeld3
namespace Go.Proofs.Ytcgeflblcpdnkaa
open Go.RowKit

theorem size_two {w w1 : World} {o o' : Obj} (hb : Below ((w.alloc o).alloc o').heap.size ((w.alloc o).alloc o') w1) : w.heap.size + 1 < w1.heap.size := by
  have := hb.size; simp at this; omega
theorem below_two {w w1 : World} {o o' : Obj} (h : Below ((w.alloc o).alloc o').heap.size ((w.alloc o).alloc o') w1) : Below w.heap.size w w1 := below_new (below_new h)

set_option maxHeartbeats 8000000 in
theorem windows_c3 (f u x DD : Int) (hf0 : 0 ≤ f) (hf1 : f ≤ 65535) (hu0 : 0 ≤ u) (hu1 : u ≤ 65535) (hx0 : 0 ≤ x) (hx1 : x ≤ 65535) (hDb1 : -1000 ≤ DD) (hDb2 : DD ≤ 1000) (hD' : (DD == 365) = false) (w : World)
    (D1 : ∀ w : World, Calls Try.prog 23 #[.agg #[.int .i64 (f % 365), .int .i64 (u % 365)]] w fun e w' => e = .returned (.int .i64 DD) ∧ Below w.heap.size w w')
    (D2 : ∀ w : World, Calls Try.prog 23 #[.agg #[.int .i64 ((u + 1) % 365), .int .i64 ((f % 365 + 365 - 1) % 365)]] w fun e w' => e = .returned (.int .i64 (365 - DD)) ∧ Below w.heap.size w w')
    (I1 : ∀ w : World, Calls Try.prog 21 #[.agg #[.int .i64 (f % 365), .int .i64 (u % 365)], .int .i64 (x % 36864)] w fun e w' => e = .returned (.bool false) ∧ Below w.heap.size w w')
    (I2 : ∀ w : World, Calls Try.prog 21 #[.agg #[.int .i64 ((u + 1) % 365), .int .i64 ((f % 365 + 365 - 1) % 365)], .int .i64 (x % 36864)] w fun e w' => e = .returned (.bool true) ∧ Below w.heap.size w w')
    (nn : Int) (N : ∀ w : World, Calls Try.prog 19 #[.agg #[.int .i64 (f % 365), .int .i64 (u % 365)], .int .i64 (x % 36864)] w fun e w' => e = .returned (.tuple #[.int .i64 nn, .bool false]) ∧ Below w.heap.size w w') :
    Calls Try.prog 5 #[.int .u16 f, .int .u16 u, .int .u16 x] w fun e w' => e = .returned (.bool true) ∧ Below w.heap.size w w' := by
  go_enter Try.func5, Try.ntmps5
  go_wp2_with (first
    | (go_at_call 23; ((with_reducible refine (D1 _).mono ?_); rintro e w1 ⟨rfl, hb1⟩; obtain ⟨hc1, hf1⟩ := bcell hb1; have hz1 := size_two hb1; have hy1 := Nat.lt_of_succ_lt hz1))
    | (go_at_call 19; (with_reducible refine (N _).mono ?_); rintro e w2 ⟨rfl, hb2⟩))
  have k0 : w2.cell? ⟨w.heap.size, 0, none⟩ = some (.int .i64 (f % 365)) := cell_keep hb2 (by rw [hc1 _ _ (by simp; omega)]; simp)
  have k1 : w2.cell? ⟨w.heap.size, 1, none⟩ = some (.int .i64 (u % 365)) := cell_keep hb2 (by rw [hc1 _ _ (by simp; omega)]; simp)
  have k2 : w2.cell? ⟨w.heap.size + 1, 0, none⟩ = some (.int .i64 ((u + 1) % 365)) := cell_keep hb2 (by rw [hc1 _ _ (by simp)]; simp)
  have k3 : w2.cell? ⟨w.heap.size + 1, 1, none⟩ = some (.int .i64 ((f % 365 + 365 - 1) % 365)) := cell_keep hb2 (by rw [hc1 _ _ (by simp)]; simp)
  have kb : Below w.heap.size w w2 := below_step (below_two hb1) hb2
  clear hb1 hb2 hc1 hf1 hz1 hy1
  have hsum : IntKind.i64.wrap (DD + (365 - DD)) = 365 := by rw [show DD + (365 - DD) = 365 by omega]; decide
  refine wp_region_held_drew (S := (fun w' => w'.cell? ⟨w.heap.size, 0, none⟩ = some (.int .i64 (f % 365)) ∧ w'.cell? ⟨w.heap.size, 1, none⟩ = some (.int .i64 (u % 365)) ∧ w'.cell? ⟨w.heap.size + 1, 0, none⟩ = some (.int .i64 ((u + 1) % 365)) ∧ w'.cell? ⟨w.heap.size + 1, 1, none⟩ = some (.int .i64 ((f % 365 + 365 - 1) % 365)) ∧ Below w.heap.size w w')) (by kernel_rfl) ?_ (fun hHeld => ?_)
  · (refine ⟨?_, ?_, ?_, ?_, ?_⟩ <;> (first | assumption | exact Below.drew (by assumption)))
  refine wpAnyH_take (i := 0) (oi := ⟨some 51, _, _, _, _, _⟩) (v := ?_) rfl (by kernel_rfl) (by kernel_rfl) (by kernel_rfl) (fun _ _ _ h => h) (Or.inl ⟨by rfl, ?_⟩) (by assumption) ?_
  rotate_left
  · intro w hSw
    try dsimp only at hSw
    go_simp
    try with_reducible rfl
  try simp only [Act.put, List.setIfInBounds_toArray, List.set_cons_zero, List.set_cons_succ]
  refine wpAnyH_take (i := 1) (oi := ⟨some 52, _, _, _, _, _⟩) (v := ?_) rfl (by kernel_rfl) (by kernel_rfl) (by kernel_rfl) (fun _ _ _ h => h) (Or.inl ⟨by rfl, ?_⟩) (by assumption) ?_
  rotate_left
  · intro w hSw
    try dsimp only at hSw
    go_simp
    try with_reducible rfl
  try simp only [Act.put, List.setIfInBounds_toArray, List.set_cons_zero, List.set_cons_succ]
  refine wpAnyH_take (i := 3) (oi := ⟨some 54, _, _, _, _, _⟩) (v := ?_) rfl (by kernel_rfl) (by kernel_rfl) (by kernel_rfl) (fun _ _ _ h => h) (Or.inl ⟨by rfl, ?_⟩) (by assumption) ?_
  rotate_left
  · intro w hSw
    try dsimp only at hSw
    go_simp
    try with_reducible rfl
  try simp only [Act.put, List.setIfInBounds_toArray, List.set_cons_zero, List.set_cons_succ]
  refine wpAnyH_take (i := 4) (oi := ⟨some 55, _, _, _, _, _⟩) (v := ?_) rfl (by kernel_rfl) (by kernel_rfl) (by kernel_rfl) (fun _ _ _ h => h) (Or.inl ⟨by rfl, ?_⟩) (by assumption) ?_
  rotate_left
  · intro w hSw
    try dsimp only at hSw
    go_simp
    try with_reducible rfl
  try simp only [Act.put, List.setIfInBounds_toArray, List.set_cons_zero, List.set_cons_succ]
  refine wpAnyH_ready (rs := [2]) (by kernel_rfl) (by simp) ?_
  refine AllReadyH.cons (o := ⟨some 53, _, _, _, _, _⟩) rfl (fun K hK => ?_) AllReadyH.nil
  go_simp
  (first
    | (go_at_call 21; (with_reducible refine (I1 _).mono ?_); rintro e w' ⟨rfl, hb⟩; have k0 : w'.cell? ⟨w.heap.size, 0, none⟩ = some (.int .i64 (f % 365)) := cell_keep hb (by assumption); have k1 : w'.cell? ⟨w.heap.size, 1, none⟩ = some (.int .i64 (u % 365)) := cell_keep hb (by assumption); have k2 : w'.cell? ⟨w.heap.size + 1, 0, none⟩ = some (.int .i64 ((u + 1) % 365)) := cell_keep hb (by assumption); have k3 : w'.cell? ⟨w.heap.size + 1, 1, none⟩ = some (.int .i64 ((f % 365 + 365 - 1) % 365)) := cell_keep hb (by assumption); have kb : Below w.heap.size w w' := below_step (by first | assumption | exact Below.drew (by assumption)) hb; clear hb)
    | (go_at_call 21; (with_reducible refine (I2 _).mono ?_); rintro e w' ⟨rfl, hb⟩; have k0 : w'.cell? ⟨w.heap.size, 0, none⟩ = some (.int .i64 (f % 365)) := cell_keep hb (by assumption); have k1 : w'.cell? ⟨w.heap.size, 1, none⟩ = some (.int .i64 (u % 365)) := cell_keep hb (by assumption); have k2 : w'.cell? ⟨w.heap.size + 1, 0, none⟩ = some (.int .i64 ((u + 1) % 365)) := cell_keep hb (by assumption); have k3 : w'.cell? ⟨w.heap.size + 1, 1, none⟩ = some (.int .i64 ((f % 365 + 365 - 1) % 365)) := cell_keep hb (by assumption); have kb : Below w.heap.size w w' := below_step (by first | assumption | exact Below.drew (by assumption)) hb; clear hb)
    | (go_at_call 23; (with_reducible refine (D1 _).mono ?_); rintro e w' ⟨rfl, hb⟩; have k0 : w'.cell? ⟨w.heap.size, 0, none⟩ = some (.int .i64 (f % 365)) := cell_keep hb (by assumption); have k1 : w'.cell? ⟨w.heap.size, 1, none⟩ = some (.int .i64 (u % 365)) := cell_keep hb (by assumption); have k2 : w'.cell? ⟨w.heap.size + 1, 0, none⟩ = some (.int .i64 ((u + 1) % 365)) := cell_keep hb (by assumption); have k3 : w'.cell? ⟨w.heap.size + 1, 1, none⟩ = some (.int .i64 ((f % 365 + 365 - 1) % 365)) := cell_keep hb (by assumption); have kb : Below w.heap.size w w' := below_step (by first | assumption | exact Below.drew (by assumption)) hb; clear hb)
    | (go_at_call 23; (with_reducible refine (D2 _).mono ?_); rintro e w' ⟨rfl, hb⟩; have k0 : w'.cell? ⟨w.heap.size, 0, none⟩ = some (.int .i64 (f % 365)) := cell_keep hb (by assumption); have k1 : w'.cell? ⟨w.heap.size, 1, none⟩ = some (.int .i64 (u % 365)) := cell_keep hb (by assumption); have k2 : w'.cell? ⟨w.heap.size + 1, 0, none⟩ = some (.int .i64 ((u + 1) % 365)) := cell_keep hb (by assumption); have k3 : w'.cell? ⟨w.heap.size + 1, 1, none⟩ = some (.int .i64 ((f % 365 + 365 - 1) % 365)) := cell_keep hb (by assumption); have kb : Below w.heap.size w w' := below_step (by first | assumption | exact Below.drew (by assumption)) hb; clear hb)
    | (go_at_call 7; (with_reducible refine (awake_any _).mono ?_); rintro e w' ⟨rfl, hb⟩; have k0 : w'.cell? ⟨w.heap.size, 0, none⟩ = some (.int .i64 (f % 365)) := cell_keep hb (by assumption); have k1 : w'.cell? ⟨w.heap.size, 1, none⟩ = some (.int .i64 (u % 365)) := cell_keep hb (by assumption); have k2 : w'.cell? ⟨w.heap.size + 1, 0, none⟩ = some (.int .i64 ((u + 1) % 365)) := cell_keep hb (by assumption); have k3 : w'.cell? ⟨w.heap.size + 1, 1, none⟩ = some (.int .i64 ((f % 365 + 365 - 1) % 365)) := cell_keep hb (by assumption); have kb : Below w.heap.size w w' := below_step (by first | assumption | exact Below.drew (by assumption)) hb; clear hb))
  first | (refine hK.out _ _ ?_ (fun hHeld => ?_)) | (go_wp2_with fail; refine hK.out _ _ ?_ (fun hHeld => ?_))
  · (refine ⟨?_, ?_, ?_, ?_, ?_⟩ <;> (first | assumption | exact Below.drew (by assumption)))
  clear hK K
  try simp only [Act.put, List.setIfInBounds_toArray, List.set_cons_zero, List.set_cons_succ]
  refine wpAnyH_ready (rs := [5]) (by kernel_rfl) (by simp) ?_
  refine AllReadyH.cons (o := ⟨some 56, _, _, _, _, _⟩) rfl (fun K hK => ?_) AllReadyH.nil
  go_simp
  (first
    | (go_at_call 21; (with_reducible refine (I1 _).mono ?_); rintro e w' ⟨rfl, hb⟩; have k0 : w'.cell? ⟨w.heap.size, 0, none⟩ = some (.int .i64 (f % 365)) := cell_keep hb (by assumption); have k1 : w'.cell? ⟨w.heap.size, 1, none⟩ = some (.int .i64 (u % 365)) := cell_keep hb (by assumption); have k2 : w'.cell? ⟨w.heap.size + 1, 0, none⟩ = some (.int .i64 ((u + 1) % 365)) := cell_keep hb (by assumption); have k3 : w'.cell? ⟨w.heap.size + 1, 1, none⟩ = some (.int .i64 ((f % 365 + 365 - 1) % 365)) := cell_keep hb (by assumption); have kb : Below w.heap.size w w' := below_step (by first | assumption | exact Below.drew (by assumption)) hb; clear hb)
    | (go_at_call 21; (with_reducible refine (I2 _).mono ?_); rintro e w' ⟨rfl, hb⟩; have k0 : w'.cell? ⟨w.heap.size, 0, none⟩ = some (.int .i64 (f % 365)) := cell_keep hb (by assumption); have k1 : w'.cell? ⟨w.heap.size, 1, none⟩ = some (.int .i64 (u % 365)) := cell_keep hb (by assumption); have k2 : w'.cell? ⟨w.heap.size + 1, 0, none⟩ = some (.int .i64 ((u + 1) % 365)) := cell_keep hb (by assumption); have k3 : w'.cell? ⟨w.heap.size + 1, 1, none⟩ = some (.int .i64 ((f % 365 + 365 - 1) % 365)) := cell_keep hb (by assumption); have kb : Below w.heap.size w w' := below_step (by first | assumption | exact Below.drew (by assumption)) hb; clear hb)
    | (go_at_call 23; (with_reducible refine (D1 _).mono ?_); rintro e w' ⟨rfl, hb⟩; have k0 : w'.cell? ⟨w.heap.size, 0, none⟩ = some (.int .i64 (f % 365)) := cell_keep hb (by assumption); have k1 : w'.cell? ⟨w.heap.size, 1, none⟩ = some (.int .i64 (u % 365)) := cell_keep hb (by assumption); have k2 : w'.cell? ⟨w.heap.size + 1, 0, none⟩ = some (.int .i64 ((u + 1) % 365)) := cell_keep hb (by assumption); have k3 : w'.cell? ⟨w.heap.size + 1, 1, none⟩ = some (.int .i64 ((f % 365 + 365 - 1) % 365)) := cell_keep hb (by assumption); have kb : Below w.heap.size w w' := below_step (by first | assumption | exact Below.drew (by assumption)) hb; clear hb)
    | (go_at_call 23; (with_reducible refine (D2 _).mono ?_); rintro e w' ⟨rfl, hb⟩; have k0 : w'.cell? ⟨w.heap.size, 0, none⟩ = some (.int .i64 (f % 365)) := cell_keep hb (by assumption); have k1 : w'.cell? ⟨w.heap.size, 1, none⟩ = some (.int .i64 (u % 365)) := cell_keep hb (by assumption); have k2 : w'.cell? ⟨w.heap.size + 1, 0, none⟩ = some (.int .i64 ((u + 1) % 365)) := cell_keep hb (by assumption); have k3 : w'.cell? ⟨w.heap.size + 1, 1, none⟩ = some (.int .i64 ((f % 365 + 365 - 1) % 365)) := cell_keep hb (by assumption); have kb : Below w.heap.size w w' := below_step (by first | assumption | exact Below.drew (by assumption)) hb; clear hb)
    | (go_at_call 7; (with_reducible refine (awake_any _).mono ?_); rintro e w' ⟨rfl, hb⟩; have k0 : w'.cell? ⟨w.heap.size, 0, none⟩ = some (.int .i64 (f % 365)) := cell_keep hb (by assumption); have k1 : w'.cell? ⟨w.heap.size, 1, none⟩ = some (.int .i64 (u % 365)) := cell_keep hb (by assumption); have k2 : w'.cell? ⟨w.heap.size + 1, 0, none⟩ = some (.int .i64 ((u + 1) % 365)) := cell_keep hb (by assumption); have k3 : w'.cell? ⟨w.heap.size + 1, 1, none⟩ = some (.int .i64 ((f % 365 + 365 - 1) % 365)) := cell_keep hb (by assumption); have kb : Below w.heap.size w w' := below_step (by first | assumption | exact Below.drew (by assumption)) hb; clear hb))
  first | (refine hK.out _ _ ?_ (fun hHeld => ?_)) | (go_wp2_with fail; refine hK.out _ _ ?_ (fun hHeld => ?_))
  · (refine ⟨?_, ?_, ?_, ?_, ?_⟩ <;> (first | assumption | exact Below.drew (by assumption)))
  clear hK K
  try simp only [Act.put, List.setIfInBounds_toArray, List.set_cons_zero, List.set_cons_succ]
  refine wpAnyH_take (i := 6) (oi := ⟨some 57, _, _, _, _, _⟩) (v := ?_) rfl (by kernel_rfl) (by kernel_rfl) (by kernel_rfl) (fun _ _ _ h => h) (Or.inl ⟨by rfl, ?_⟩) (by assumption) ?_
  rotate_left
  · intro w hSw
    try dsimp only at hSw
    go_simp
    try with_reducible rfl
  try simp only [Act.put, List.setIfInBounds_toArray, List.set_cons_zero, List.set_cons_succ]
  refine wpAnyH_take (i := 7) (oi := ⟨some 58, _, _, _, _, _⟩) (v := ?_) rfl (by kernel_rfl) (by kernel_rfl) (by kernel_rfl) (fun _ _ _ h => h) (Or.inl ⟨by rfl, ?_⟩) (by assumption) ?_
  rotate_left
  · intro w hSw
    try dsimp only at hSw
    go_simp
    try with_reducible rfl
  try simp only [Act.put, List.setIfInBounds_toArray, List.set_cons_zero, List.set_cons_succ]
  refine wpAnyH_take (i := 8) (oi := ⟨some 59, _, _, _, _, _⟩) (v := ?_) rfl (by kernel_rfl) (by kernel_rfl) (by kernel_rfl) (fun _ _ _ h => h) (Or.inl ⟨by rfl, ?_⟩) (by assumption) ?_
  rotate_left
  · intro w hSw
    try dsimp only at hSw
    go_simp
    try with_reducible rfl
  try simp only [Act.put, List.setIfInBounds_toArray, List.set_cons_zero, List.set_cons_succ]
  refine wpAnyH_take (i := 10) (oi := ⟨some 61, _, _, _, _, _⟩) (v := ?_) rfl (by kernel_rfl) (by kernel_rfl) (by kernel_rfl) (fun _ _ _ h => h) (Or.inl ⟨by rfl, ?_⟩) (by assumption) ?_
  rotate_left
  · intro w hSw
    try dsimp only at hSw
    go_simp
    try with_reducible rfl
  try simp only [Act.put, List.setIfInBounds_toArray, List.set_cons_zero, List.set_cons_succ]
  refine wpAnyH_ready (rs := [9]) (by kernel_rfl) (by simp) ?_
  refine AllReadyH.cons (o := ⟨some 60, _, _, _, _, _⟩) rfl (fun K hK => ?_) AllReadyH.nil
  go_simp
  (first
    | (go_at_call 21; (with_reducible refine (I1 _).mono ?_); rintro e w' ⟨rfl, hb⟩; have k0 : w'.cell? ⟨w.heap.size, 0, none⟩ = some (.int .i64 (f % 365)) := cell_keep hb (by assumption); have k1 : w'.cell? ⟨w.heap.size, 1, none⟩ = some (.int .i64 (u % 365)) := cell_keep hb (by assumption); have k2 : w'.cell? ⟨w.heap.size + 1, 0, none⟩ = some (.int .i64 ((u + 1) % 365)) := cell_keep hb (by assumption); have k3 : w'.cell? ⟨w.heap.size + 1, 1, none⟩ = some (.int .i64 ((f % 365 + 365 - 1) % 365)) := cell_keep hb (by assumption); have kb : Below w.heap.size w w' := below_step (by first | assumption | exact Below.drew (by assumption)) hb; clear hb)
    | (go_at_call 21; (with_reducible refine (I2 _).mono ?_); rintro e w' ⟨rfl, hb⟩; have k0 : w'.cell? ⟨w.heap.size, 0, none⟩ = some (.int .i64 (f % 365)) := cell_keep hb (by assumption); have k1 : w'.cell? ⟨w.heap.size, 1, none⟩ = some (.int .i64 (u % 365)) := cell_keep hb (by assumption); have k2 : w'.cell? ⟨w.heap.size + 1, 0, none⟩ = some (.int .i64 ((u + 1) % 365)) := cell_keep hb (by assumption); have k3 : w'.cell? ⟨w.heap.size + 1, 1, none⟩ = some (.int .i64 ((f % 365 + 365 - 1) % 365)) := cell_keep hb (by assumption); have kb : Below w.heap.size w w' := below_step (by first | assumption | exact Below.drew (by assumption)) hb; clear hb)
    | (go_at_call 23; (with_reducible refine (D1 _).mono ?_); rintro e w' ⟨rfl, hb⟩; have k0 : w'.cell? ⟨w.heap.size, 0, none⟩ = some (.int .i64 (f % 365)) := cell_keep hb (by assumption); have k1 : w'.cell? ⟨w.heap.size, 1, none⟩ = some (.int .i64 (u % 365)) := cell_keep hb (by assumption); have k2 : w'.cell? ⟨w.heap.size + 1, 0, none⟩ = some (.int .i64 ((u + 1) % 365)) := cell_keep hb (by assumption); have k3 : w'.cell? ⟨w.heap.size + 1, 1, none⟩ = some (.int .i64 ((f % 365 + 365 - 1) % 365)) := cell_keep hb (by assumption); have kb : Below w.heap.size w w' := below_step (by first | assumption | exact Below.drew (by assumption)) hb; clear hb)
    | (go_at_call 23; (with_reducible refine (D2 _).mono ?_); rintro e w' ⟨rfl, hb⟩; have k0 : w'.cell? ⟨w.heap.size, 0, none⟩ = some (.int .i64 (f % 365)) := cell_keep hb (by assumption); have k1 : w'.cell? ⟨w.heap.size, 1, none⟩ = some (.int .i64 (u % 365)) := cell_keep hb (by assumption); have k2 : w'.cell? ⟨w.heap.size + 1, 0, none⟩ = some (.int .i64 ((u + 1) % 365)) := cell_keep hb (by assumption); have k3 : w'.cell? ⟨w.heap.size + 1, 1, none⟩ = some (.int .i64 ((f % 365 + 365 - 1) % 365)) := cell_keep hb (by assumption); have kb : Below w.heap.size w w' := below_step (by first | assumption | exact Below.drew (by assumption)) hb; clear hb)
    | (go_at_call 7; (with_reducible refine (awake_any _).mono ?_); rintro e w' ⟨rfl, hb⟩; have k0 : w'.cell? ⟨w.heap.size, 0, none⟩ = some (.int .i64 (f % 365)) := cell_keep hb (by assumption); have k1 : w'.cell? ⟨w.heap.size, 1, none⟩ = some (.int .i64 (u % 365)) := cell_keep hb (by assumption); have k2 : w'.cell? ⟨w.heap.size + 1, 0, none⟩ = some (.int .i64 ((u + 1) % 365)) := cell_keep hb (by assumption); have k3 : w'.cell? ⟨w.heap.size + 1, 1, none⟩ = some (.int .i64 ((f % 365 + 365 - 1) % 365)) := cell_keep hb (by assumption); have kb : Below w.heap.size w w' := below_step (by first | assumption | exact Below.drew (by assumption)) hb; clear hb))
  first | (refine hK.out _ _ ?_ (fun hHeld => ?_)) | (go_wp2_with fail; refine hK.out _ _ ?_ (fun hHeld => ?_))
  · (refine ⟨?_, ?_, ?_, ?_, ?_⟩ <;> (first | assumption | exact Below.drew (by assumption)))
  clear hK K
  try simp only [Act.put, List.setIfInBounds_toArray, List.set_cons_zero, List.set_cons_succ]
  refine wpAnyH_ready (rs := [11]) (by kernel_rfl) (by simp) ?_
  refine AllReadyH.cons (o := ⟨some 62, _, _, _, _, _⟩) rfl (fun K hK => ?_) AllReadyH.nil
  go_simp
  (first
    | (go_at_call 21; (with_reducible refine (I1 _).mono ?_); rintro e w' ⟨rfl, hb⟩; have k0 : w'.cell? ⟨w.heap.size, 0, none⟩ = some (.int .i64 (f % 365)) := cell_keep hb (by assumption); have k1 : w'.cell? ⟨w.heap.size, 1, none⟩ = some (.int .i64 (u % 365)) := cell_keep hb (by assumption); have k2 : w'.cell? ⟨w.heap.size + 1, 0, none⟩ = some (.int .i64 ((u + 1) % 365)) := cell_keep hb (by assumption); have k3 : w'.cell? ⟨w.heap.size + 1, 1, none⟩ = some (.int .i64 ((f % 365 + 365 - 1) % 365)) := cell_keep hb (by assumption); have kb : Below w.heap.size w w' := below_step (by first | assumption | exact Below.drew (by assumption)) hb; clear hb)
    | (go_at_call 21; (with_reducible refine (I2 _).mono ?_); rintro e w' ⟨rfl, hb⟩; have k0 : w'.cell? ⟨w.heap.size, 0, none⟩ = some (.int .i64 (f % 365)) := cell_keep hb (by assumption); have k1 : w'.cell? ⟨w.heap.size, 1, none⟩ = some (.int .i64 (u % 365)) := cell_keep hb (by assumption); have k2 : w'.cell? ⟨w.heap.size + 1, 0, none⟩ = some (.int .i64 ((u + 1) % 365)) := cell_keep hb (by assumption); have k3 : w'.cell? ⟨w.heap.size + 1, 1, none⟩ = some (.int .i64 ((f % 365 + 365 - 1) % 365)) := cell_keep hb (by assumption); have kb : Below w.heap.size w w' := below_step (by first | assumption | exact Below.drew (by assumption)) hb; clear hb)
    | (go_at_call 23; (with_reducible refine (D1 _).mono ?_); rintro e w' ⟨rfl, hb⟩; have k0 : w'.cell? ⟨w.heap.size, 0, none⟩ = some (.int .i64 (f % 365)) := cell_keep hb (by assumption); have k1 : w'.cell? ⟨w.heap.size, 1, none⟩ = some (.int .i64 (u % 365)) := cell_keep hb (by assumption); have k2 : w'.cell? ⟨w.heap.size + 1, 0, none⟩ = some (.int .i64 ((u + 1) % 365)) := cell_keep hb (by assumption); have k3 : w'.cell? ⟨w.heap.size + 1, 1, none⟩ = some (.int .i64 ((f % 365 + 365 - 1) % 365)) := cell_keep hb (by assumption); have kb : Below w.heap.size w w' := below_step (by first | assumption | exact Below.drew (by assumption)) hb; clear hb)
    | (go_at_call 23; (with_reducible refine (D2 _).mono ?_); rintro e w' ⟨rfl, hb⟩; have k0 : w'.cell? ⟨w.heap.size, 0, none⟩ = some (.int .i64 (f % 365)) := cell_keep hb (by assumption); have k1 : w'.cell? ⟨w.heap.size, 1, none⟩ = some (.int .i64 (u % 365)) := cell_keep hb (by assumption); have k2 : w'.cell? ⟨w.heap.size + 1, 0, none⟩ = some (.int .i64 ((u + 1) % 365)) := cell_keep hb (by assumption); have k3 : w'.cell? ⟨w.heap.size + 1, 1, none⟩ = some (.int .i64 ((f % 365 + 365 - 1) % 365)) := cell_keep hb (by assumption); have kb : Below w.heap.size w w' := below_step (by first | assumption | exact Below.drew (by assumption)) hb; clear hb)
    | (go_at_call 7; (with_reducible refine (awake_any _).mono ?_); rintro e w' ⟨rfl, hb⟩; have k0 : w'.cell? ⟨w.heap.size, 0, none⟩ = some (.int .i64 (f % 365)) := cell_keep hb (by assumption); have k1 : w'.cell? ⟨w.heap.size, 1, none⟩ = some (.int .i64 (u % 365)) := cell_keep hb (by assumption); have k2 : w'.cell? ⟨w.heap.size + 1, 0, none⟩ = some (.int .i64 ((u + 1) % 365)) := cell_keep hb (by assumption); have k3 : w'.cell? ⟨w.heap.size + 1, 1, none⟩ = some (.int .i64 ((f % 365 + 365 - 1) % 365)) := cell_keep hb (by assumption); have kb : Below w.heap.size w w' := below_step (by first | assumption | exact Below.drew (by assumption)) hb; clear hb))
  first | (refine hK.out _ _ ?_ (fun hHeld => ?_)) | (go_wp2_with fail; refine hK.out _ _ ?_ (fun hHeld => ?_))
  · (refine ⟨?_, ?_, ?_, ?_, ?_⟩ <;> (first | assumption | exact Below.drew (by assumption)))
  clear hK K
  try simp only [Act.put, List.setIfInBounds_toArray, List.set_cons_zero, List.set_cons_succ]
  refine wpAnyH_take (i := 12) (oi := ⟨some 63, _, _, _, _, _⟩) (v := ?_) rfl (by kernel_rfl) (by kernel_rfl) (by kernel_rfl) (fun _ _ _ h => h) (Or.inl ⟨by rfl, ?_⟩) (by assumption) ?_
  rotate_left
  · intro w hSw
    try dsimp only at hSw
    go_simp
    try with_reducible rfl
  try simp only [Act.put, List.setIfInBounds_toArray, List.set_cons_zero, List.set_cons_succ]
  refine wpAnyH_take (i := 13) (oi := ⟨some 64, _, _, _, _, _⟩) (v := ?_) rfl (by kernel_rfl) (by kernel_rfl) (by kernel_rfl) (fun _ _ _ h => h) (Or.inl ⟨by rfl, ?_⟩) (by assumption) ?_
  rotate_left
  · intro w hSw
    try dsimp only at hSw
    go_simp
    try with_reducible rfl
  try simp only [Act.put, List.setIfInBounds_toArray, List.set_cons_zero, List.set_cons_succ]
  refine wpAnyH_take (i := 14) (oi := ⟨some 65, _, _, _, _, _⟩) (v := ?_) rfl (by kernel_rfl) (by kernel_rfl) (by kernel_rfl) (fun _ _ _ h => h) (Or.inl ⟨by rfl, ?_⟩) (by assumption) ?_
  rotate_left
  · intro w hSw
    try dsimp only at hSw
    go_simp
    try with_reducible rfl
  try simp only [Act.put, List.setIfInBounds_toArray, List.set_cons_zero, List.set_cons_succ]
  refine wpAnyH_take (i := 15) (oi := ⟨some 66, _, _, _, _, _⟩) (v := ?_) rfl (by kernel_rfl) (by kernel_rfl) (by kernel_rfl) (fun _ _ _ h => h) (Or.inl ⟨by rfl, ?_⟩) (by assumption) ?_
  rotate_left
  · intro w hSw
    try dsimp only at hSw
    go_simp
    try with_reducible rfl
  try simp only [Act.put, List.setIfInBounds_toArray, List.set_cons_zero, List.set_cons_succ]
  refine wpAnyH_take (i := 16) (oi := ⟨some 67, _, _, _, _, _⟩) (v := ?_) rfl (by kernel_rfl) (by kernel_rfl) (by kernel_rfl) (fun _ _ _ h => h) (Or.inl ⟨by rfl, ?_⟩) (by assumption) ?_
  rotate_left
  · intro w hSw
    try dsimp only at hSw
    go_simp
    try with_reducible rfl
  try simp only [Act.put, List.setIfInBounds_toArray, List.set_cons_zero, List.set_cons_succ]
  refine wpAnyH_take (i := 17) (oi := ⟨some 68, _, _, _, _, _⟩) (v := ?_) rfl (by kernel_rfl) (by kernel_rfl) (by kernel_rfl) (fun _ _ _ h => h) (Or.inl ⟨by rfl, ?_⟩) (by assumption) ?_
  rotate_left
  · intro w hSw
    try dsimp only at hSw
    go_simp
    try with_reducible rfl
  try simp only [Act.put, List.setIfInBounds_toArray, List.set_cons_zero, List.set_cons_succ]
  refine wpAnyH_take (i := 18) (oi := ⟨some 69, _, _, _, _, _⟩) (v := ?_) rfl (by kernel_rfl) (by kernel_rfl) (by kernel_rfl) (fun _ _ _ h => h) (Or.inl ⟨by rfl, ?_⟩) (by assumption) ?_
  rotate_left
  · intro w hSw
    try dsimp only at hSw
    go_simp
    try with_reducible rfl
  try simp only [Act.put, List.setIfInBounds_toArray, List.set_cons_zero, List.set_cons_succ]
  refine wpAnyH_take (i := 19) (oi := ⟨some 70, _, _, _, _, _⟩) (v := undef) rfl (by kernel_rfl) (by kernel_rfl) (by kernel_rfl) (fun _ _ _ h => h) (Or.inr ⟨?_, rfl⟩) (by assumption) ?_
  · simp [Region.wanted, yielded, undef]
  try simp only [Act.put, List.setIfInBounds_toArray, List.set_cons_zero, List.set_cons_succ]
  refine wpAnyH_take (i := 20) (oi := ⟨some 71, _, _, _, _, _⟩) (v := undef) rfl (by kernel_rfl) (by kernel_rfl) (by kernel_rfl) (fun _ _ _ h => h) (Or.inr ⟨?_, rfl⟩) (by assumption) ?_
  · simp [Region.wanted, yielded, undef]
  try simp only [Act.put, List.setIfInBounds_toArray, List.set_cons_zero, List.set_cons_succ]
  refine wpAnyH_take (i := 21) (oi := ⟨some 72, _, _, _, _, _⟩) (v := undef) rfl (by kernel_rfl) (by kernel_rfl) (by kernel_rfl) (fun _ _ _ h => h) (Or.inr ⟨?_, rfl⟩) (by assumption) ?_
  · simp [Region.wanted, yielded, undef]
  try simp only [Act.put, List.setIfInBounds_toArray, List.set_cons_zero, List.set_cons_succ]
  refine wpAnyH_take (i := 22) (oi := ⟨some 73, _, _, _, _, _⟩) (v := undef) rfl (by kernel_rfl) (by kernel_rfl) (by kernel_rfl) (fun _ _ _ h => h) (Or.inr ⟨?_, rfl⟩) (by assumption) ?_
  · simp [Region.wanted, yielded, undef]
  try simp only [Act.put, List.setIfInBounds_toArray, List.set_cons_zero, List.set_cons_succ]
  refine wpAnyH_take (i := 23) (oi := ⟨some 74, _, _, _, _, _⟩) (v := undef) rfl (by kernel_rfl) (by kernel_rfl) (by kernel_rfl) (fun _ _ _ h => h) (Or.inr ⟨?_, rfl⟩) (by assumption) ?_
  · simp [Region.wanted, yielded, undef]
  try simp only [Act.put, List.setIfInBounds_toArray, List.set_cons_zero, List.set_cons_succ]
  refine wpAnyH_take (i := 24) (oi := ⟨some 75, _, _, _, _, _⟩) (v := undef) rfl (by kernel_rfl) (by kernel_rfl) (by kernel_rfl) (fun _ _ _ h => h) (Or.inr ⟨?_, rfl⟩) (by assumption) ?_
  · simp [Region.wanted, yielded, undef]
  try simp only [Act.put, List.setIfInBounds_toArray, List.set_cons_zero, List.set_cons_succ]
  refine wpAnyH_take (i := 25) (oi := ⟨some 76, _, _, _, _, _⟩) (v := undef) rfl (by kernel_rfl) (by kernel_rfl) (by kernel_rfl) (fun _ _ _ h => h) (Or.inr ⟨?_, rfl⟩) (by assumption) ?_
  · simp [Region.wanted, yielded, undef]
  try simp only [Act.put, List.setIfInBounds_toArray, List.set_cons_zero, List.set_cons_succ]
  refine wpAnyH_take (i := 26) (oi := ⟨some 77, _, _, _, _, _⟩) (v := undef) rfl (by kernel_rfl) (by kernel_rfl) (by kernel_rfl) (fun _ _ _ h => h) (Or.inr ⟨?_, rfl⟩) (by assumption) ?_
  · simp [Region.wanted, yielded, undef]
  try simp only [Act.put, List.setIfInBounds_toArray, List.set_cons_zero, List.set_cons_succ]
  refine wpAnyH_take (i := 27) (oi := ⟨some 78, _, _, _, _, _⟩) (v := ?_) rfl (by kernel_rfl) (by kernel_rfl) (by kernel_rfl) (fun _ _ _ h => h) (Or.inl ⟨by rfl, ?_⟩) (by assumption) ?_
  rotate_left
  · intro w hSw
    try dsimp only at hSw
    go_simp
    try with_reducible rfl
  try simp only [Act.put, List.setIfInBounds_toArray, List.set_cons_zero, List.set_cons_succ]
  refine wpAnyH_take (i := 28) (oi := ⟨some 79, _, _, _, _, _⟩) (v := ?_) rfl (by kernel_rfl) (by kernel_rfl) (by kernel_rfl) (fun _ _ _ h => h) (Or.inl ⟨by rfl, ?_⟩) (by assumption) ?_
  rotate_left
  · intro w hSw
    try dsimp only at hSw
    go_simp
    try with_reducible rfl
  try simp only [Act.put, List.setIfInBounds_toArray, List.set_cons_zero, List.set_cons_succ]
  refine wpAnyH_take (i := 29) (oi := ⟨some 80, _, _, _, _, _⟩) (v := ?_) rfl (by kernel_rfl) (by kernel_rfl) (by kernel_rfl) (fun _ _ _ h => h) (Or.inl ⟨by rfl, ?_⟩) (by assumption) ?_
  rotate_left
  · intro w hSw
    try dsimp only at hSw
    go_simp
    try with_reducible rfl
  try simp only [Act.put, List.setIfInBounds_toArray, List.set_cons_zero, List.set_cons_succ]
  refine wpAnyH_take (i := 30) (oi := ⟨some 81, _, _, _, _, _⟩) (v := ?_) rfl (by kernel_rfl) (by kernel_rfl) (by kernel_rfl) (fun _ _ _ h => h) (Or.inl ⟨by rfl, ?_⟩) (by assumption) ?_
  rotate_left
  · intro w hSw
    try dsimp only at hSw
    go_simp
    try with_reducible rfl
  try simp only [Act.put, List.setIfInBounds_toArray, List.set_cons_zero, List.set_cons_succ]
  refine wpAnyH_take (i := 31) (oi := ⟨some 82, _, _, _, _, _⟩) (v := ?_) rfl (by kernel_rfl) (by kernel_rfl) (by kernel_rfl) (fun _ _ _ h => h) (Or.inl ⟨by rfl, ?_⟩) (by assumption) ?_
  rotate_left
  · intro w hSw
    try dsimp only at hSw
    go_simp
    try with_reducible rfl
  try simp only [Act.put, List.setIfInBounds_toArray, List.set_cons_zero, List.set_cons_succ]
  refine wpAnyH_take (i := 33) (oi := ⟨some 84, _, _, _, _, _⟩) (v := ?_) rfl (by kernel_rfl) (by kernel_rfl) (by kernel_rfl) (fun _ _ _ h => h) (Or.inl ⟨by rfl, ?_⟩) (by assumption) ?_
  rotate_left
  · intro w hSw
    try dsimp only at hSw
    go_simp
    try with_reducible rfl
  try simp only [Act.put, List.setIfInBounds_toArray, List.set_cons_zero, List.set_cons_succ]
  refine wpAnyH_ready (rs := [32]) (by kernel_rfl) (by simp) ?_
  refine AllReadyH.cons (o := ⟨some 83, _, _, _, _, _⟩) rfl (fun K hK => ?_) AllReadyH.nil
  go_simp
  (first
    | (go_at_call 21; (with_reducible refine (I1 _).mono ?_); rintro e w' ⟨rfl, hb⟩; have k0 : w'.cell? ⟨w.heap.size, 0, none⟩ = some (.int .i64 (f % 365)) := cell_keep hb (by assumption); have k1 : w'.cell? ⟨w.heap.size, 1, none⟩ = some (.int .i64 (u % 365)) := cell_keep hb (by assumption); have k2 : w'.cell? ⟨w.heap.size + 1, 0, none⟩ = some (.int .i64 ((u + 1) % 365)) := cell_keep hb (by assumption); have k3 : w'.cell? ⟨w.heap.size + 1, 1, none⟩ = some (.int .i64 ((f % 365 + 365 - 1) % 365)) := cell_keep hb (by assumption); have kb : Below w.heap.size w w' := below_step (by first | assumption | exact Below.drew (by assumption)) hb; clear hb)
    | (go_at_call 21; (with_reducible refine (I2 _).mono ?_); rintro e w' ⟨rfl, hb⟩; have k0 : w'.cell? ⟨w.heap.size, 0, none⟩ = some (.int .i64 (f % 365)) := cell_keep hb (by assumption); have k1 : w'.cell? ⟨w.heap.size, 1, none⟩ = some (.int .i64 (u % 365)) := cell_keep hb (by assumption); have k2 : w'.cell? ⟨w.heap.size + 1, 0, none⟩ = some (.int .i64 ((u + 1) % 365)) := cell_keep hb (by assumption); have k3 : w'.cell? ⟨w.heap.size + 1, 1, none⟩ = some (.int .i64 ((f % 365 + 365 - 1) % 365)) := cell_keep hb (by assumption); have kb : Below w.heap.size w w' := below_step (by first | assumption | exact Below.drew (by assumption)) hb; clear hb)
    | (go_at_call 23; (with_reducible refine (D1 _).mono ?_); rintro e w' ⟨rfl, hb⟩; have k0 : w'.cell? ⟨w.heap.size, 0, none⟩ = some (.int .i64 (f % 365)) := cell_keep hb (by assumption); have k1 : w'.cell? ⟨w.heap.size, 1, none⟩ = some (.int .i64 (u % 365)) := cell_keep hb (by assumption); have k2 : w'.cell? ⟨w.heap.size + 1, 0, none⟩ = some (.int .i64 ((u + 1) % 365)) := cell_keep hb (by assumption); have k3 : w'.cell? ⟨w.heap.size + 1, 1, none⟩ = some (.int .i64 ((f % 365 + 365 - 1) % 365)) := cell_keep hb (by assumption); have kb : Below w.heap.size w w' := below_step (by first | assumption | exact Below.drew (by assumption)) hb; clear hb)
    | (go_at_call 23; (with_reducible refine (D2 _).mono ?_); rintro e w' ⟨rfl, hb⟩; have k0 : w'.cell? ⟨w.heap.size, 0, none⟩ = some (.int .i64 (f % 365)) := cell_keep hb (by assumption); have k1 : w'.cell? ⟨w.heap.size, 1, none⟩ = some (.int .i64 (u % 365)) := cell_keep hb (by assumption); have k2 : w'.cell? ⟨w.heap.size + 1, 0, none⟩ = some (.int .i64 ((u + 1) % 365)) := cell_keep hb (by assumption); have k3 : w'.cell? ⟨w.heap.size + 1, 1, none⟩ = some (.int .i64 ((f % 365 + 365 - 1) % 365)) := cell_keep hb (by assumption); have kb : Below w.heap.size w w' := below_step (by first | assumption | exact Below.drew (by assumption)) hb; clear hb)
    | (go_at_call 7; (with_reducible refine (awake_any _).mono ?_); rintro e w' ⟨rfl, hb⟩; have k0 : w'.cell? ⟨w.heap.size, 0, none⟩ = some (.int .i64 (f % 365)) := cell_keep hb (by assumption); have k1 : w'.cell? ⟨w.heap.size, 1, none⟩ = some (.int .i64 (u % 365)) := cell_keep hb (by assumption); have k2 : w'.cell? ⟨w.heap.size + 1, 0, none⟩ = some (.int .i64 ((u + 1) % 365)) := cell_keep hb (by assumption); have k3 : w'.cell? ⟨w.heap.size + 1, 1, none⟩ = some (.int .i64 ((f % 365 + 365 - 1) % 365)) := cell_keep hb (by assumption); have kb : Below w.heap.size w w' := below_step (by first | assumption | exact Below.drew (by assumption)) hb; clear hb))
  first | (refine hK.out _ _ ?_ (fun hHeld => ?_)) | (go_wp2_with fail; refine hK.out _ _ ?_ (fun hHeld => ?_))
  · (refine ⟨?_, ?_, ?_, ?_, ?_⟩ <;> (first | assumption | exact Below.drew (by assumption)))
  clear hK K
  try simp only [Act.put, List.setIfInBounds_toArray, List.set_cons_zero, List.set_cons_succ]
  refine wpAnyH_take (i := 34) (oi := ⟨some 85, _, _, _, _, _⟩) (v := ?_) rfl (by kernel_rfl) (by kernel_rfl) (by kernel_rfl) (fun _ _ _ h => h) (Or.inl ⟨by rfl, ?_⟩) (by assumption) ?_
  rotate_left
  · intro w hSw
    try dsimp only at hSw
    go_simp
    try with_reducible rfl
  try simp only [Act.put, List.setIfInBounds_toArray, List.set_cons_zero, List.set_cons_succ]
  refine wpAnyH_take (i := 35) (oi := ⟨some 86, _, _, _, _, _⟩) (v := undef) rfl (by kernel_rfl) (by kernel_rfl) (by kernel_rfl) (fun _ _ _ h => h) (Or.inr ⟨?_, rfl⟩) (by assumption) ?_
  · simp [Region.wanted, yielded, undef]
  try simp only [Act.put, List.setIfInBounds_toArray, List.set_cons_zero, List.set_cons_succ]
  refine wpAnyH_take (i := 36) (oi := ⟨some 87, _, _, _, _, _⟩) (v := undef) rfl (by kernel_rfl) (by kernel_rfl) (by kernel_rfl) (fun _ _ _ h => h) (Or.inr ⟨?_, rfl⟩) (by assumption) ?_
  · simp [Region.wanted, yielded, undef]
  try simp only [Act.put, List.setIfInBounds_toArray, List.set_cons_zero, List.set_cons_succ]
  refine wpAnyH_take (i := 37) (oi := ⟨some 88, _, _, _, _, _⟩) (v := undef) rfl (by kernel_rfl) (by kernel_rfl) (by kernel_rfl) (fun _ _ _ h => h) (Or.inr ⟨?_, rfl⟩) (by assumption) ?_
  · simp [Region.wanted, yielded, undef]
  try simp only [Act.put, List.setIfInBounds_toArray, List.set_cons_zero, List.set_cons_succ]
  refine wpAnyH_take (i := 38) (oi := ⟨some 89, _, _, _, _, _⟩) (v := ?_) rfl (by kernel_rfl) (by kernel_rfl) (by kernel_rfl) (fun _ _ _ h => h) (Or.inl ⟨by rfl, ?_⟩) (by assumption) ?_
  rotate_left
  · intro w hSw
    try dsimp only at hSw
    go_simp
    try with_reducible rfl
  try simp only [Act.put, List.setIfInBounds_toArray, List.set_cons_zero, List.set_cons_succ]
  refine wpAnyH_take (i := 39) (oi := ⟨some 90, _, _, _, _, _⟩) (v := ?_) rfl (by kernel_rfl) (by kernel_rfl) (by kernel_rfl) (fun _ _ _ h => h) (Or.inl ⟨by rfl, ?_⟩) (by assumption) ?_
  rotate_left
  · intro w hSw
    try dsimp only at hSw
    go_simp
    try with_reducible rfl
  try simp only [Act.put, List.setIfInBounds_toArray, List.set_cons_zero, List.set_cons_succ]
  refine wpAnyH_take (i := 40) (oi := ⟨some 91, _, _, _, _, _⟩) (v := ?_) rfl (by kernel_rfl) (by kernel_rfl) (by kernel_rfl) (fun _ _ _ h => h) (Or.inl ⟨by rfl, ?_⟩) (by assumption) ?_
  rotate_left
  · intro w hSw
    try dsimp only at hSw
    go_simp
    try with_reducible rfl
  try simp only [Act.put, List.setIfInBounds_toArray, List.set_cons_zero, List.set_cons_succ]
  refine wpAnyH_take (i := 41) (oi := ⟨some 92, _, _, _, _, _⟩) (v := ?_) rfl (by kernel_rfl) (by kernel_rfl) (by kernel_rfl) (fun _ _ _ h => h) (Or.inl ⟨by rfl, ?_⟩) (by assumption) ?_
  rotate_left
  · intro w hSw
    try dsimp only at hSw
    go_simp
    try with_reducible rfl
  try simp only [Act.put, List.setIfInBounds_toArray, List.set_cons_zero, List.set_cons_succ]
  refine wpAnyH_ready (rs := [42]) (by kernel_rfl) (by simp) ?_
  refine AllReadyH.cons (o := ⟨some 93, _, _, _, _, _⟩) rfl (fun K hK => ?_) AllReadyH.nil
  go_simp
  (first
    | (go_at_call 21; (with_reducible refine (I1 _).mono ?_); rintro e w' ⟨rfl, hb⟩; have k0 : w'.cell? ⟨w.heap.size, 0, none⟩ = some (.int .i64 (f % 365)) := cell_keep hb (by assumption); have k1 : w'.cell? ⟨w.heap.size, 1, none⟩ = some (.int .i64 (u % 365)) := cell_keep hb (by assumption); have k2 : w'.cell? ⟨w.heap.size + 1, 0, none⟩ = some (.int .i64 ((u + 1) % 365)) := cell_keep hb (by assumption); have k3 : w'.cell? ⟨w.heap.size + 1, 1, none⟩ = some (.int .i64 ((f % 365 + 365 - 1) % 365)) := cell_keep hb (by assumption); have kb : Below w.heap.size w w' := below_step (by first | assumption | exact Below.drew (by assumption)) hb; clear hb)
    | (go_at_call 21; (with_reducible refine (I2 _).mono ?_); rintro e w' ⟨rfl, hb⟩; have k0 : w'.cell? ⟨w.heap.size, 0, none⟩ = some (.int .i64 (f % 365)) := cell_keep hb (by assumption); have k1 : w'.cell? ⟨w.heap.size, 1, none⟩ = some (.int .i64 (u % 365)) := cell_keep hb (by assumption); have k2 : w'.cell? ⟨w.heap.size + 1, 0, none⟩ = some (.int .i64 ((u + 1) % 365)) := cell_keep hb (by assumption); have k3 : w'.cell? ⟨w.heap.size + 1, 1, none⟩ = some (.int .i64 ((f % 365 + 365 - 1) % 365)) := cell_keep hb (by assumption); have kb : Below w.heap.size w w' := below_step (by first | assumption | exact Below.drew (by assumption)) hb; clear hb)
    | (go_at_call 23; (with_reducible refine (D1 _).mono ?_); rintro e w' ⟨rfl, hb⟩; have k0 : w'.cell? ⟨w.heap.size, 0, none⟩ = some (.int .i64 (f % 365)) := cell_keep hb (by assumption); have k1 : w'.cell? ⟨w.heap.size, 1, none⟩ = some (.int .i64 (u % 365)) := cell_keep hb (by assumption); have k2 : w'.cell? ⟨w.heap.size + 1, 0, none⟩ = some (.int .i64 ((u + 1) % 365)) := cell_keep hb (by assumption); have k3 : w'.cell? ⟨w.heap.size + 1, 1, none⟩ = some (.int .i64 ((f % 365 + 365 - 1) % 365)) := cell_keep hb (by assumption); have kb : Below w.heap.size w w' := below_step (by first | assumption | exact Below.drew (by assumption)) hb; clear hb)
    | (go_at_call 23; (with_reducible refine (D2 _).mono ?_); rintro e w' ⟨rfl, hb⟩; have k0 : w'.cell? ⟨w.heap.size, 0, none⟩ = some (.int .i64 (f % 365)) := cell_keep hb (by assumption); have k1 : w'.cell? ⟨w.heap.size, 1, none⟩ = some (.int .i64 (u % 365)) := cell_keep hb (by assumption); have k2 : w'.cell? ⟨w.heap.size + 1, 0, none⟩ = some (.int .i64 ((u + 1) % 365)) := cell_keep hb (by assumption); have k3 : w'.cell? ⟨w.heap.size + 1, 1, none⟩ = some (.int .i64 ((f % 365 + 365 - 1) % 365)) := cell_keep hb (by assumption); have kb : Below w.heap.size w w' := below_step (by first | assumption | exact Below.drew (by assumption)) hb; clear hb)
    | (go_at_call 7; (with_reducible refine (awake_any _).mono ?_); rintro e w' ⟨rfl, hb⟩; have k0 : w'.cell? ⟨w.heap.size, 0, none⟩ = some (.int .i64 (f % 365)) := cell_keep hb (by assumption); have k1 : w'.cell? ⟨w.heap.size, 1, none⟩ = some (.int .i64 (u % 365)) := cell_keep hb (by assumption); have k2 : w'.cell? ⟨w.heap.size + 1, 0, none⟩ = some (.int .i64 ((u + 1) % 365)) := cell_keep hb (by assumption); have k3 : w'.cell? ⟨w.heap.size + 1, 1, none⟩ = some (.int .i64 ((f % 365 + 365 - 1) % 365)) := cell_keep hb (by assumption); have kb : Below w.heap.size w w' := below_step (by first | assumption | exact Below.drew (by assumption)) hb; clear hb))
  first | (refine hK.out _ _ ?_ (fun hHeld => ?_)) | (go_wp2_with fail; refine hK.out _ _ ?_ (fun hHeld => ?_))
  · (refine ⟨?_, ?_, ?_, ?_, ?_⟩ <;> (first | assumption | exact Below.drew (by assumption)))
  clear hK K
  try simp only [Act.put, List.setIfInBounds_toArray, List.set_cons_zero, List.set_cons_succ]
  refine wpAnyH_take (i := 43) (oi := ⟨some 94, _, _, _, _, _⟩) (v := ?_) rfl (by kernel_rfl) (by kernel_rfl) (by kernel_rfl) (fun _ _ _ h => h) (Or.inl ⟨by rfl, ?_⟩) (by assumption) ?_
  rotate_left
  · intro w hSw
    try dsimp only at hSw
    go_simp
    try with_reducible rfl
  try simp only [Act.put, List.setIfInBounds_toArray, List.set_cons_zero, List.set_cons_succ]
  refine wpAnyH_take (i := 44) (oi := ⟨some 6, _, _, _, _, _⟩) (v := ?_) rfl (by kernel_rfl) (by kernel_rfl) (by kernel_rfl) (fun _ _ _ h => h) (Or.inl ⟨by rfl, ?_⟩) (by assumption) ?_
  rotate_left
  · intro w hSw
    try dsimp only at hSw
    go_simp
    try with_reducible rfl
  try simp only [Act.put, List.setIfInBounds_toArray, List.set_cons_zero, List.set_cons_succ]
  refine wpAnyH_done (by kernel_rfl) ?_ _
  go_wp2
  go_ret
  exact ⟨rfl, by assumption⟩
end Go.Proofs.Ytcgeflblcpdnkaa
