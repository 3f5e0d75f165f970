/- CalendarAnswers. -/
import Derived.Test.YtcgeflblcpdnkaaCD
import Derived.Test.YtcgeflblcpdnkaaCG
import Derived.Test.YtcgeflblcpdnkaaKeep
import Derived.Deep.RegionHeld3
namespace Go.Proofs.Ytcgeflblcpdnkaa
open Go.RowKit

/-- What the rounds need of the world: two windows and six numbers in blocks of the call's own. -/
structure Env (W w : World) (f u y z : Int) (vb sb : Nat) : Prop where
  below : Below W.heap.size W w
  f0 : w.cell? ⟨W.heap.size, 0, none⟩ = some (.int .i64 f)
  f1 : w.cell? ⟨W.heap.size, 1, none⟩ = some (.int .i64 u)
  v0 : w.cell? ⟨vb, 0, none⟩ = some (.int .i64 y)
  v1 : w.cell? ⟨vb, 1, none⟩ = some (.int .i64 z)
  s : ∀ k, k < 3 → ∃ s t : Int, w.cell? ⟨sb, k * 2, none⟩ = some (.int .i64 s) ∧ w.cell? ⟨sb, k * 2 + 1, none⟩ = some (.int .i64 t)
theorem Env.keep {W w w' : World} {f u y z : Int} {vb sb : Nat} (h : Env W w f u y z vb sb) (hb : Below w.heap.size w w') : Env W w' f u y z vb sb :=
  ⟨h.below.trans (hb.mono h.below.size), cell_keep hb h.f0, cell_keep hb h.f1, cell_keep hb h.v0, cell_keep hb h.v1, fun k hk => by
    obtain ⟨s, t, h1, h2⟩ := h.s k hk
    exact ⟨s, t, cell_keep hb h1, cell_keep hb h2⟩⟩
theorem env_start {W w1 w2 w3 : World} {f u y z a b c d e g : Int} (hb1 : Below (W.heap.size + 1) (W.alloc (.cells #[.int .i64 f, .int .i64 u] 23)) w1) (hb2 : Below (W.heap.size + 1) w1 w2) (hb3 : Below (W.heap.size + 1) w2 w3) :
    Env W ((w3.alloc (.cells #[.int .i64 y, .int .i64 z] 23)).alloc (.cells #[.int .i64 a, .int .i64 b, .int .i64 c, .int .i64 d, .int .i64 e, .int .i64 g] 29)) f u y z w3.heap.size (w3.heap.size + 1) := by
  have hb := (hb1.trans hb2).trans hb3
  have hs := hb.size
  have hs' : W.heap.size + 1 ≤ w3.heap.size := by simpa using hs
  have hB : Below W.heap.size W w3 := ((Below.refl _ _).alloc (Nat.le_refl _) _).trans (hb.mono (by omega))
  have c0 : w3.cell? ⟨W.heap.size, 0, none⟩ = some (.int .i64 f) := by rw [hb.cell (p := ⟨W.heap.size, 0, none⟩) (by simp)]; simp
  have c1 : w3.cell? ⟨W.heap.size, 1, none⟩ = some (.int .i64 u) := by rw [hb.cell (p := ⟨W.heap.size, 1, none⟩) (by simp)]; simp
  have hA : Below w3.heap.size w3 ((w3.alloc (.cells #[.int .i64 y, .int .i64 z] 23)).alloc (.cells #[.int .i64 a, .int .i64 b, .int .i64 c, .int .i64 d, .int .i64 e, .int .i64 g] 29)) :=
    ((Below.refl _ _).alloc (Nat.le_refl _) _).alloc (by simp) _
  refine ⟨hB.trans (hA.mono (by omega)), cell_keep hA c0, cell_keep hA c1, by simp, by simp, fun k hk => ?_⟩
  rcases (show k = 0 ∨ k = 1 ∨ k = 2 by omega) with rfl | rfl | rfl
  · exact ⟨_, _, by simp; rfl, by simp; rfl⟩
  · exact ⟨_, _, by simp; rfl, by simp; rfl⟩
  · exact ⟨_, _, by simp; rfl, by simp; rfl⟩

theorem below_step' {B : Nat} {w w1 w2 : World} (h : Below B w w1) (h2 : Below w1.heap.size w1 w2) (hB : B ≤ w.heap.size := by exact Nat.le_refl _) : Below B w w2 := h.trans (h2.mono (Nat.le_trans hB h.size))
/-- .. and, in a round, the pair of numbers. -/
structure Env2 (W w : World) (f u y z : Int) (vb sb : Nat) (s t : Int) (xb : Nat) : Prop where
  env : Env W w f u y z vb sb
  x0 : w.cell? ⟨xb, 0, none⟩ = some (.int .i64 s)
  x1 : w.cell? ⟨xb, 1, none⟩ = some (.int .i64 t)
theorem Env2.keep {W w w' : World} {f u y z s t : Int} {vb sb xb : Nat} (h : Env2 W w f u y z vb sb s t xb) (hb : Below w.heap.size w w') : Env2 W w' f u y z vb sb s t xb :=
  ⟨h.env.keep hb, cell_keep hb h.x0, cell_keep hb h.x1⟩
theorem env2_start {W w : World} {f u y z s t : Int} {vb sb : Nat} (h : Env W w f u y z vb sb) : Env2 W (w.alloc (.cells #[.int .i64 s, .int .i64 t] 29)) f u y z vb sb s t w.heap.size :=
  ⟨h.keep ((Below.refl _ _).alloc (Nat.le_refl _) _), by simp, by simp⟩
/-- .. and the two windows in a row. -/
structure Env3 (W w : World) (f u y z : Int) (vb sb : Nat) (s t : Int) (xb ib : Nat) : Prop where
  env : Env2 W w f u y z vb sb s t xb
  i : ∀ k, k < 2 → ∃ p q : Int, w.cell? ⟨ib, k * 2, none⟩ = some (.int .i64 p) ∧ w.cell? ⟨ib, k * 2 + 1, none⟩ = some (.int .i64 q)
theorem Env3.keep {W w w' : World} {f u y z s t : Int} {vb sb xb ib : Nat} (h : Env3 W w f u y z vb sb s t xb ib) (hb : Below w.heap.size w w') : Env3 W w' f u y z vb sb s t xb ib :=
  ⟨h.env.keep hb, fun k hk => by
    obtain ⟨p, q, h1, h2⟩ := h.i k hk
    exact ⟨p, q, cell_keep hb h1, cell_keep hb h2⟩⟩
theorem env3_start {W w : World} {f u y z s t a b c d : Int} {vb sb xb : Nat} (h : Env2 W w f u y z vb sb s t xb) : Env3 W (w.alloc (.cells #[.int .i64 a, .int .i64 b, .int .i64 c, .int .i64 d] 23)) f u y z vb sb s t xb w.heap.size := by
  refine ⟨h.keep ((Below.refl _ _).alloc (Nat.le_refl _) _), fun k hk => ?_⟩
  rcases (show k = 0 ∨ k = 1 by omega) with rfl | rfl
  · exact ⟨_, _, by simp; rfl, by simp; rfl⟩
  · exact ⟨_, _, by simp; rfl, by simp; rfl⟩

set_option maxHeartbeats 8000000 in
set_option maxRecDepth 100000 in
theorem answers_any (a b f u : Int) (v3 : Value) (n3 : Nat) (g3 : Nat → Int) (v4 : Value) (n4 : Nat) (g4 : Nat → Int) (W : World) (h3 : IntsAt .i64 W v3 n3 g3) (h4 : IntsAt .i64 W v4 n4 g4) (c4 : CapAt v4) :
    Calls Try.prog 3 #[.int .i64 a, .int .i64 b, .agg #[.int .i64 f, .int .i64 u], v3, v4] W fun e w' => e = .returned (.bool true) ∧ Below W.heap.size W w' := by
  have h3' := h3
  obtain ⟨p3, cap3, rfl, hm3, _⟩ := h3
  unfold maxLen at hm3
  by_cases hn : 450 < n3
  · have hn' : (450 : Int) < (n3 : Int) := by omega
    go_enter Try.func3, Try.ntmps3
    go_wp2_with (go_at_call 7; (with_reducible refine (awake_any _).mono ?_); rintro e w2 ⟨rfl, hb3⟩)
    go_ret
    exact ⟨rfl, below_new hb3⟩
  · have hn' : ¬ (450 : Int) < (n3 : Int) := by omega
    have hNew := new_any v4 n4 g4 (W.alloc (.cells #[.int .i64 f, .int .i64 u] 23)) (h4.kept ((Below.refl _ _).alloc (Nat.le_refl _) _)) c4
    rw [show (W.alloc (.cells #[.int .i64 f, .int .i64 u] 23)).heap.size = W.heap.size + 1 by simp] at hNew
    have H3 := Lib.hid h3'
    clear h3' h4 c4
    go_enter Try.func3, Try.ntmps3
    go_wp2_with (go_at_call 8; (with_reducible refine hNew.mono ?_); rintro e w1 ⟨rfl, hb1, ht1, hz1⟩)
    have hN1 := next_any w1 _ ht1 367 (by omega)
    clear ht1 hNew
    with_reducible refine hN1.mono ?_
    rintro e w2 ⟨x1, rfl, hx1, hb2, ht2⟩
    have hN2 := next_any w2 _ ht2 367 (by omega)
    obtain ⟨x10, x11, _⟩ := hx1
    have x12 := x11 (by omega)
    clear hN1 ht2 x11
    go_wp2_with fail
    with_reducible refine hN2.mono ?_
    rintro e w3 ⟨x2, rfl, hx2, hb3, ht3⟩
    obtain ⟨x20, x21, _⟩ := hx2
    have x22 := x21 (by omega)
    clear hN2 ht3 x21
    have hM105 := fun k w => mod_any k 105 (by omega) w
    have hM370 := fun k w => mod_any k 370 (by omega) w
    have hM37 := fun k w => mod_any k 37000 (by omega) w
    have hM4 := fun k w => mod_any k 400 (by omega) w
    go_wp2_with (go_at_call 10; first
      | ((with_reducible refine (hM105 _ _).mono ?_); rintro e w4 ⟨rfl, rfl⟩)
      | ((with_reducible refine (hM370 _ _).mono ?_); rintro e w5 ⟨rfl, rfl⟩)
      | ((with_reducible refine (hM37 _ _).mono ?_); rintro e w6 ⟨rfl, rfl⟩)
      | ((with_reducible refine (hM4 _ _).mono ?_); rintro e w7 ⟨rfl, rfl⟩))
    have hE := env_start (y := x1 - 1) (z := x2 - 1) (a := a) (b := b) (c := modI a 105) (d := modI b 370) (e := modI a 37000) (g := wrap64 (modI a 37000 + modI b 400)) hb1 hb2 hb3
    generalize hWx : (w3.alloc (.cells #[.int .i64 (x1 - 1), .int .i64 (x2 - 1)] 23)).alloc (.cells #[.int .i64 a, .int .i64 b, .int .i64 (modI a 105), .int .i64 (modI b 370), .int .i64 (modI a 37000), .int .i64 (wrap64 (modI a 37000 + modI b 400))] 29) = W5 at *
    have HE := Lib.hid hE
    clear hE hWx hb1 hb2 hb3 hz1 hM105 hM370 hM37 hM4
    generalize w3.heap.size = vb at *
    generalize x1 - 1 = y1 at *
    generalize x2 - 1 = y2 at *
    clear x10 x12 x20 x22
    go_loopw [68] (fun i wr => ∃ k : Nat, k ≤ 3 ∧ i = .int .i64 k ∧ Env W wr f u y1 y2 vb (vb + 1)) (fun i _ => 3 - (intOf i).toNat)
    case atStart => exact ⟨0, Nat.zero_le _, rfl, HE.out⟩
    case round =>
      obtain ⟨k, hk, rfl, hE⟩ := hrel
      by_cases hlt : k < 3
      · have z1 : (k : Int) < 3 := by omega
        have z0 : (0 : Int) ≤ (k : Int) := by omega
        obtain ⟨s, t, hs, ht⟩ := hE.s k hlt
        have HEr := Lib.hid hE
        clear hE HE
        have hE2 := env2_start (s := s) (t := t) HEr.out
        have D := fun w => calDay_any s t w
        have D' := fun w => refDay_any s t w
        have Y := fun w => calYear_any s w
        have Y' := fun w => refYear_any s w
        have P := fun w => calPlace_any s w
        have P' := fun w => refPlace_any s w
        have WK := fun w' (hb : Below W.heap.size W w') => calWorking_any s t _ n3 g3 w' (H3.out.kept hb)
        have WK' := fun w' (hb : Below W.heap.size W w') => (refWorking_any s t _ n3 g3 w' (H3.out.kept hb)).mono fun e w'' h => (⟨h.1, below_self h.2⟩ : e = .returned (.tuple #[.int .i64 (workI s t n3 g3).1, .int .i64 (workI s t n3 g3).2]) ∧ Below w'.heap.size w' w'')
        have WKa := WK _ hE2.env.below
        have HE2 := Lib.hid hE2
        clear hE2
        generalize (dayI s t).1 = d1 at *
        generalize (dayI s t).2 = d2 at *
        generalize (yearI s).1 = d3 at *
        generalize (yearI s).2 = d4 at *
        generalize (plI s).1 = d5 at *
        generalize (plI s).2 = d6 at *
        generalize (workI s t n3 g3).1 = d7 at *
        generalize (workI s t n3 g3).2 = d8 at *
        have hways : wrap64 (t - s) < 2000 ∨ (¬ wrap64 (t - s) < 2000 ∧ s < 0) ∨ (¬ wrap64 (t - s) < 2000 ∧ ¬ s < 0) := by omega
        rcases hways with hw | ⟨hw, hs0⟩ | ⟨hw, hs0⟩
        · go_wp2_with (first
            | (go_at_call 11; (with_reducible refine (D _).mono ?_); rintro e w' ⟨rfl, rfl⟩)
            | (go_at_call 12; (with_reducible refine (D' _).mono ?_); rintro e w' ⟨rfl, rfl⟩)
            | (go_at_call 13; (with_reducible refine (Y _).mono ?_); rintro e w' ⟨rfl, rfl⟩)
            | (go_at_call 14; (with_reducible refine (Y' _).mono ?_); rintro e w' ⟨rfl, rfl⟩)
            | (go_at_call 15; (with_reducible refine (P _).mono ?_); rintro e w' ⟨rfl, rfl⟩)
            | (go_at_call 16; (with_reducible refine (P' _).mono ?_); rintro e w' ⟨rfl, rfl⟩)
            | (go_at_call 17; (with_reducible refine WKa.mono ?_); rintro e w1 ⟨rfl, hb⟩; have HE3 := Lib.hid (HE2.out.keep hb); have WKb := WK' _ HE3.out.env.below; have hx0 := HE3.out.x0; have hx1 := HE3.out.x1; clear hb)
            | (go_at_call 18; (with_reducible refine WKb.mono ?_); rintro e w2 ⟨rfl, hb⟩; have HE4 := Lib.hid (HE3.out.keep hb); have hx0 := HE4.out.x0; have hx1 := HE4.out.x1; have hw0 := HE4.out.env.f0; have hw1 := HE4.out.env.f1; have hv0 := HE4.out.env.v0; have hv1 := HE4.out.env.v1; clear hb))
          have hE5 := env3_start (a := f) (b := u) (c := y1) (d := y2) HE4.out
          generalize hwx : w2.alloc (.cells #[.int .i64 f, .int .i64 u, .int .i64 y1, .int .i64 y2] 23) = w5 at *
          generalize w2.heap.size = ib at *
          clear hwx hx0 hx1 hw0 hw1 hv0 hv1 HE2 HE3 HE4 WK WK' WKa WKb D D' Y Y' P P'
          generalize wr.heap.size = xb at *
          clear HEr
          have HE5 := Lib.hid hE5
          clear hE5
          go_loopw [181] (fun i wx => ∃ j : Nat, j ≤ 2 ∧ i = .int .i64 j ∧ Env3 W wx f u y1 y2 vb (vb + 1) s t xb ib) (fun i _ => 2 - (intOf i).toNat)
          case atStart => exact ⟨0, Nat.zero_le _, rfl, HE5.out⟩
          case round =>
            obtain ⟨j, hj, rfl, hE⟩ := hrel
            clear HE5
            by_cases hlt2 : j < 2
            · have z3 : (j : Int) < 2 := by omega
              have z4 : (0 : Int) ≤ (j : Int) := by omega
              obtain ⟨p, q, hp, hq⟩ := hE.i j hlt2
              have N := fun w => calNext_any p q s w
              have N' := fun w => refNext_any p q s w
              have I := fun w => calIn_any p q s w
              have I' := fun w => refIn_any p q s w
              have G := fun w => calDays_any p q w
              have G' := fun w => refDays_any p q w
              generalize (nextI p q s).1 = r1 at *
              generalize (nextI p q s).2 = r2 at *
              generalize inB p q s = r3 at *
              generalize daysI p q = r4 at *
              have hby := (Below.refl wr.heap.size wr).alloc (Nat.le_refl _) (.cells #[.int .i64 p, .int .i64 q] 23)
              have hx0 := cell_keep hby hE.env.x0
              have hB0 := Lib.hid hby
              have HEw := Lib.hid hE
              clear hby hE
              go_wp2_with (first
                | (go_at_call 19; (with_reducible refine (N _).mono ?_); rintro e w6 ⟨rfl, hb⟩; have hx1 : w6.cell? ⟨xb, 0, none⟩ = some (.int .i64 s) := cell_keep hb hx0; have hy1 : w6.cell? ⟨wr.heap.size, 0, none⟩ = some (.int .i64 p) := cell_keep hb (by simp); have hy2 : w6.cell? ⟨wr.heap.size, 1, none⟩ = some (.int .i64 q) := cell_keep hb (by simp); have hB1 := Lib.hid (below_step' hB0.out hb); clear hb)
                | (go_at_call 20; (with_reducible refine (N' _).mono ?_); rintro e w7 ⟨rfl, hb⟩; have hx2 : w7.cell? ⟨xb, 0, none⟩ = some (.int .i64 s) := cell_keep hb hx1; have hy3 : w7.cell? ⟨wr.heap.size, 0, none⟩ = some (.int .i64 p) := cell_keep hb hy1; have hy4 : w7.cell? ⟨wr.heap.size, 1, none⟩ = some (.int .i64 q) := cell_keep hb hy2; have hB2 := Lib.hid (below_step' hB1.out hb); clear hb))
              have hB3 := hB2.out
              clear hB0 hB1 hB2 hx0 hx1 hy1 hy2
              go_region_held3 (fun w' => w'.cell? ⟨xb, 0, none⟩ = some (.int .i64 s) ∧ w'.cell? ⟨wr.heap.size, 0, none⟩ = some (.int .i64 p) ∧ w'.cell? ⟨wr.heap.size, 1, none⟩ = some (.int .i64 q) ∧ Below wr.heap.size wr w') ((refine ⟨?_, ?_, ?_, ?_⟩ <;> (first | assumption | exact Below.drew (by assumption)))) (first
                | (go_at_call 21; (with_reducible refine (I _).mono ?_); rintro e w8 ⟨rfl, hb⟩; have c0 : w8.cell? ⟨xb, 0, none⟩ = some (.int .i64 s) := cell_keep hb (by assumption); have c1 : w8.cell? ⟨wr.heap.size, 0, none⟩ = some (.int .i64 p) := cell_keep hb (by assumption); have c2 : w8.cell? ⟨wr.heap.size, 1, none⟩ = some (.int .i64 q) := cell_keep hb (by assumption); have c3 : Below wr.heap.size wr w8 := below_step' (by first | assumption | exact Below.drew (by assumption)) hb; clear hb)
                | (go_at_call 22; (with_reducible refine (I' _).mono ?_); rintro e w8 ⟨rfl, hb⟩; have c0 : w8.cell? ⟨xb, 0, none⟩ = some (.int .i64 s) := cell_keep hb (by assumption); have c1 : w8.cell? ⟨wr.heap.size, 0, none⟩ = some (.int .i64 p) := cell_keep hb (by assumption); have c2 : w8.cell? ⟨wr.heap.size, 1, none⟩ = some (.int .i64 q) := cell_keep hb (by assumption); have c3 : Below wr.heap.size wr w8 := below_step' (by first | assumption | exact Below.drew (by assumption)) hb; clear hb)
                | (go_at_call 23; (with_reducible refine (G _).mono ?_); rintro e w8 ⟨rfl, hb⟩; have c0 : w8.cell? ⟨xb, 0, none⟩ = some (.int .i64 s) := cell_keep hb (by assumption); have c1 : w8.cell? ⟨wr.heap.size, 0, none⟩ = some (.int .i64 p) := cell_keep hb (by assumption); have c2 : w8.cell? ⟨wr.heap.size, 1, none⟩ = some (.int .i64 q) := cell_keep hb (by assumption); have c3 : Below wr.heap.size wr w8 := below_step' (by first | assumption | exact Below.drew (by assumption)) hb; clear hb)
                | (go_at_call 24; (with_reducible refine (G' _).mono ?_); rintro e w8 ⟨rfl, hb⟩; have c0 : w8.cell? ⟨xb, 0, none⟩ = some (.int .i64 s) := cell_keep hb (by assumption); have c1 : w8.cell? ⟨wr.heap.size, 0, none⟩ = some (.int .i64 p) := cell_keep hb (by assumption); have c2 : w8.cell? ⟨wr.heap.size, 1, none⟩ = some (.int .i64 q) := cell_keep hb (by assumption); have c3 : Below wr.heap.size wr w8 := below_step' (by first | assumption | exact Below.drew (by assumption)) hb; clear hb))
              have HE6 := Lib.hid (HEw.out.keep c3)
              clear c0 c1 c2 c3 hB3 hx2 hy3 hy4 N N' I I' G G' hp hq
              go_wp2
              go_roundw
              case rel => exact ⟨j + 1, by omega, by go_num, HE6.out⟩
              case measure => simp [intOf]; omega
            · obtain rfl : j = 2 := by omega
              have HE6 := Lib.hid hE.env.env
              clear hE
              go_wp2
              go_roundw
              case rel => exact ⟨k + 1, by omega, by go_num, HE6.out⟩
              case measure => simp [intOf]; omega
        · go_wp2_with (first
            | (go_at_call 11; (with_reducible refine (D _).mono ?_); rintro e w' ⟨rfl, rfl⟩)
            | (go_at_call 12; (with_reducible refine (D' _).mono ?_); rintro e w' ⟨rfl, rfl⟩)
            | (go_at_call 13; (with_reducible refine (Y _).mono ?_); rintro e w' ⟨rfl, rfl⟩)
            | (go_at_call 14; (with_reducible refine (Y' _).mono ?_); rintro e w' ⟨rfl, rfl⟩)
            | (go_at_call 15; (with_reducible refine (P _).mono ?_); rintro e w' ⟨rfl, rfl⟩)
            | (go_at_call 16; (with_reducible refine (P' _).mono ?_); rintro e w' ⟨rfl, rfl⟩)
            | (go_at_call 17; (with_reducible refine WKa.mono ?_); rintro e w1 ⟨rfl, hb⟩; have HE3 := Lib.hid (HE2.out.keep hb); have WKb := WK' _ HE3.out.env.below; have hx0 := HE3.out.x0; have hx1 := HE3.out.x1; clear hb)
            | (go_at_call 18; (with_reducible refine WKb.mono ?_); rintro e w2 ⟨rfl, hb⟩; have HE4 := Lib.hid (HE3.out.keep hb); have hx0 := HE4.out.x0; have hx1 := HE4.out.x1; have hw0 := HE4.out.env.f0; have hw1 := HE4.out.env.f1; have hv0 := HE4.out.env.v0; have hv1 := HE4.out.env.v1; clear hb))
          have hE5 := env3_start (a := f) (b := u) (c := y1) (d := y2) HE4.out
          generalize hwx : w2.alloc (.cells #[.int .i64 f, .int .i64 u, .int .i64 y1, .int .i64 y2] 23) = w5 at *
          generalize w2.heap.size = ib at *
          clear hwx hx0 hx1 hw0 hw1 hv0 hv1 HE2 HE3 HE4 WK WK' WKa WKb D D' Y Y' P P'
          generalize wr.heap.size = xb at *
          clear HEr
          have HE5 := Lib.hid hE5
          clear hE5
          go_loopw [181] (fun i wx => ∃ j : Nat, j ≤ 2 ∧ i = .int .i64 j ∧ Env3 W wx f u y1 y2 vb (vb + 1) s t xb ib) (fun i _ => 2 - (intOf i).toNat)
          case atStart => exact ⟨0, Nat.zero_le _, rfl, HE5.out⟩
          case round =>
            obtain ⟨j, hj, rfl, hE⟩ := hrel
            clear HE5
            by_cases hlt2 : j < 2
            · have z3 : (j : Int) < 2 := by omega
              have z4 : (0 : Int) ≤ (j : Int) := by omega
              obtain ⟨p, q, hp, hq⟩ := hE.i j hlt2
              have N := fun w => calNext_any p q s w
              have N' := fun w => refNext_any p q s w
              have I := fun w => calIn_any p q s w
              have I' := fun w => refIn_any p q s w
              have G := fun w => calDays_any p q w
              have G' := fun w => refDays_any p q w
              generalize (nextI p q s).1 = r1 at *
              generalize (nextI p q s).2 = r2 at *
              generalize inB p q s = r3 at *
              generalize daysI p q = r4 at *
              have hby := (Below.refl wr.heap.size wr).alloc (Nat.le_refl _) (.cells #[.int .i64 p, .int .i64 q] 23)
              have hx0 := cell_keep hby hE.env.x0
              have hB0 := Lib.hid hby
              have HEw := Lib.hid hE
              clear hby hE
              go_wp2_with (first
                | (go_at_call 19; (with_reducible refine (N _).mono ?_); rintro e w6 ⟨rfl, hb⟩; have hx1 : w6.cell? ⟨xb, 0, none⟩ = some (.int .i64 s) := cell_keep hb hx0; have hy1 : w6.cell? ⟨wr.heap.size, 0, none⟩ = some (.int .i64 p) := cell_keep hb (by simp); have hy2 : w6.cell? ⟨wr.heap.size, 1, none⟩ = some (.int .i64 q) := cell_keep hb (by simp); have hB1 := Lib.hid (below_step' hB0.out hb); clear hb)
                | (go_at_call 20; (with_reducible refine (N' _).mono ?_); rintro e w7 ⟨rfl, hb⟩; have hx2 : w7.cell? ⟨xb, 0, none⟩ = some (.int .i64 s) := cell_keep hb hx1; have hy3 : w7.cell? ⟨wr.heap.size, 0, none⟩ = some (.int .i64 p) := cell_keep hb hy1; have hy4 : w7.cell? ⟨wr.heap.size, 1, none⟩ = some (.int .i64 q) := cell_keep hb hy2; have hB2 := Lib.hid (below_step' hB1.out hb); clear hb))
              have hB3 := hB2.out
              clear hB0 hB1 hB2 hx0 hx1 hy1 hy2
              go_region_held3 (fun w' => w'.cell? ⟨xb, 0, none⟩ = some (.int .i64 s) ∧ w'.cell? ⟨wr.heap.size, 0, none⟩ = some (.int .i64 p) ∧ w'.cell? ⟨wr.heap.size, 1, none⟩ = some (.int .i64 q) ∧ Below wr.heap.size wr w') ((refine ⟨?_, ?_, ?_, ?_⟩ <;> (first | assumption | exact Below.drew (by assumption)))) (first
                | (go_at_call 21; (with_reducible refine (I _).mono ?_); rintro e w8 ⟨rfl, hb⟩; have c0 : w8.cell? ⟨xb, 0, none⟩ = some (.int .i64 s) := cell_keep hb (by assumption); have c1 : w8.cell? ⟨wr.heap.size, 0, none⟩ = some (.int .i64 p) := cell_keep hb (by assumption); have c2 : w8.cell? ⟨wr.heap.size, 1, none⟩ = some (.int .i64 q) := cell_keep hb (by assumption); have c3 : Below wr.heap.size wr w8 := below_step' (by first | assumption | exact Below.drew (by assumption)) hb; clear hb)
                | (go_at_call 22; (with_reducible refine (I' _).mono ?_); rintro e w8 ⟨rfl, hb⟩; have c0 : w8.cell? ⟨xb, 0, none⟩ = some (.int .i64 s) := cell_keep hb (by assumption); have c1 : w8.cell? ⟨wr.heap.size, 0, none⟩ = some (.int .i64 p) := cell_keep hb (by assumption); have c2 : w8.cell? ⟨wr.heap.size, 1, none⟩ = some (.int .i64 q) := cell_keep hb (by assumption); have c3 : Below wr.heap.size wr w8 := below_step' (by first | assumption | exact Below.drew (by assumption)) hb; clear hb)
                | (go_at_call 23; (with_reducible refine (G _).mono ?_); rintro e w8 ⟨rfl, hb⟩; have c0 : w8.cell? ⟨xb, 0, none⟩ = some (.int .i64 s) := cell_keep hb (by assumption); have c1 : w8.cell? ⟨wr.heap.size, 0, none⟩ = some (.int .i64 p) := cell_keep hb (by assumption); have c2 : w8.cell? ⟨wr.heap.size, 1, none⟩ = some (.int .i64 q) := cell_keep hb (by assumption); have c3 : Below wr.heap.size wr w8 := below_step' (by first | assumption | exact Below.drew (by assumption)) hb; clear hb)
                | (go_at_call 24; (with_reducible refine (G' _).mono ?_); rintro e w8 ⟨rfl, hb⟩; have c0 : w8.cell? ⟨xb, 0, none⟩ = some (.int .i64 s) := cell_keep hb (by assumption); have c1 : w8.cell? ⟨wr.heap.size, 0, none⟩ = some (.int .i64 p) := cell_keep hb (by assumption); have c2 : w8.cell? ⟨wr.heap.size, 1, none⟩ = some (.int .i64 q) := cell_keep hb (by assumption); have c3 : Below wr.heap.size wr w8 := below_step' (by first | assumption | exact Below.drew (by assumption)) hb; clear hb))
              have HE6 := Lib.hid (HEw.out.keep c3)
              clear c0 c1 c2 c3 hB3 hx2 hy3 hy4 N N' I I' G G' hp hq
              go_wp2
              go_roundw
              case rel => exact ⟨j + 1, by omega, by go_num, HE6.out⟩
              case measure => simp [intOf]; omega
            · obtain rfl : j = 2 := by omega
              have HE6 := Lib.hid hE.env.env
              clear hE
              go_wp2
              go_roundw
              case rel => exact ⟨k + 1, by omega, by go_num, HE6.out⟩
              case measure => simp [intOf]; omega
        · have hw0 := HE2.out.env.f0
          have hw1 := HE2.out.env.f1
          have hv0 := HE2.out.env.v0
          have hv1 := HE2.out.env.v1
          go_wp2_with (first
            | (go_at_call 11; (with_reducible refine (D _).mono ?_); rintro e w' ⟨rfl, rfl⟩)
            | (go_at_call 12; (with_reducible refine (D' _).mono ?_); rintro e w' ⟨rfl, rfl⟩)
            | (go_at_call 13; (with_reducible refine (Y _).mono ?_); rintro e w' ⟨rfl, rfl⟩)
            | (go_at_call 14; (with_reducible refine (Y' _).mono ?_); rintro e w' ⟨rfl, rfl⟩)
            | (go_at_call 15; (with_reducible refine (P _).mono ?_); rintro e w' ⟨rfl, rfl⟩)
            | (go_at_call 16; (with_reducible refine (P' _).mono ?_); rintro e w' ⟨rfl, rfl⟩))
          have hE5 := env3_start (a := f) (b := u) (c := y1) (d := y2) HE2.out
          generalize hwx : (wr.alloc (.cells #[.int .i64 s, .int .i64 t] 29)).alloc (.cells #[.int .i64 f, .int .i64 u, .int .i64 y1, .int .i64 y2] 23) = w5 at *
          rw [show (wr.alloc (.cells #[.int .i64 s, .int .i64 t] 29)).heap.size = wr.heap.size + 1 by simp] at hE5
          generalize wr.heap.size + 1 = ib at *
          clear hwx hw0 hw1 hv0 hv1 HE2 WK WK' WKa D D' Y Y' P P'
          generalize wr.heap.size = xb at *
          clear HEr
          have HE5 := Lib.hid hE5
          clear hE5
          go_loopw [181] (fun i wx => ∃ j : Nat, j ≤ 2 ∧ i = .int .i64 j ∧ Env3 W wx f u y1 y2 vb (vb + 1) s t xb ib) (fun i _ => 2 - (intOf i).toNat)
          case atStart => exact ⟨0, Nat.zero_le _, rfl, HE5.out⟩
          case round =>
            obtain ⟨j, hj, rfl, hE⟩ := hrel
            clear HE5
            by_cases hlt2 : j < 2
            · have z3 : (j : Int) < 2 := by omega
              have z4 : (0 : Int) ≤ (j : Int) := by omega
              obtain ⟨p, q, hp, hq⟩ := hE.i j hlt2
              have N := fun w => calNext_any p q s w
              have N' := fun w => refNext_any p q s w
              have I := fun w => calIn_any p q s w
              have I' := fun w => refIn_any p q s w
              have G := fun w => calDays_any p q w
              have G' := fun w => refDays_any p q w
              generalize (nextI p q s).1 = r1 at *
              generalize (nextI p q s).2 = r2 at *
              generalize inB p q s = r3 at *
              generalize daysI p q = r4 at *
              have hby := (Below.refl wr.heap.size wr).alloc (Nat.le_refl _) (.cells #[.int .i64 p, .int .i64 q] 23)
              have hx0 := cell_keep hby hE.env.x0
              have hB0 := Lib.hid hby
              have HEw := Lib.hid hE
              clear hby hE
              go_wp2_with (first
                | (go_at_call 19; (with_reducible refine (N _).mono ?_); rintro e w6 ⟨rfl, hb⟩; have hx1 : w6.cell? ⟨xb, 0, none⟩ = some (.int .i64 s) := cell_keep hb hx0; have hy1 : w6.cell? ⟨wr.heap.size, 0, none⟩ = some (.int .i64 p) := cell_keep hb (by simp); have hy2 : w6.cell? ⟨wr.heap.size, 1, none⟩ = some (.int .i64 q) := cell_keep hb (by simp); have hB1 := Lib.hid (below_step' hB0.out hb); clear hb)
                | (go_at_call 20; (with_reducible refine (N' _).mono ?_); rintro e w7 ⟨rfl, hb⟩; have hx2 : w7.cell? ⟨xb, 0, none⟩ = some (.int .i64 s) := cell_keep hb hx1; have hy3 : w7.cell? ⟨wr.heap.size, 0, none⟩ = some (.int .i64 p) := cell_keep hb hy1; have hy4 : w7.cell? ⟨wr.heap.size, 1, none⟩ = some (.int .i64 q) := cell_keep hb hy2; have hB2 := Lib.hid (below_step' hB1.out hb); clear hb))
              have hB3 := hB2.out
              clear hB0 hB1 hB2 hx0 hx1 hy1 hy2
              go_region_held3 (fun w' => w'.cell? ⟨xb, 0, none⟩ = some (.int .i64 s) ∧ w'.cell? ⟨wr.heap.size, 0, none⟩ = some (.int .i64 p) ∧ w'.cell? ⟨wr.heap.size, 1, none⟩ = some (.int .i64 q) ∧ Below wr.heap.size wr w') ((refine ⟨?_, ?_, ?_, ?_⟩ <;> (first | assumption | exact Below.drew (by assumption)))) (first
                | (go_at_call 21; (with_reducible refine (I _).mono ?_); rintro e w8 ⟨rfl, hb⟩; have c0 : w8.cell? ⟨xb, 0, none⟩ = some (.int .i64 s) := cell_keep hb (by assumption); have c1 : w8.cell? ⟨wr.heap.size, 0, none⟩ = some (.int .i64 p) := cell_keep hb (by assumption); have c2 : w8.cell? ⟨wr.heap.size, 1, none⟩ = some (.int .i64 q) := cell_keep hb (by assumption); have c3 : Below wr.heap.size wr w8 := below_step' (by first | assumption | exact Below.drew (by assumption)) hb; clear hb)
                | (go_at_call 22; (with_reducible refine (I' _).mono ?_); rintro e w8 ⟨rfl, hb⟩; have c0 : w8.cell? ⟨xb, 0, none⟩ = some (.int .i64 s) := cell_keep hb (by assumption); have c1 : w8.cell? ⟨wr.heap.size, 0, none⟩ = some (.int .i64 p) := cell_keep hb (by assumption); have c2 : w8.cell? ⟨wr.heap.size, 1, none⟩ = some (.int .i64 q) := cell_keep hb (by assumption); have c3 : Below wr.heap.size wr w8 := below_step' (by first | assumption | exact Below.drew (by assumption)) hb; clear hb)
                | (go_at_call 23; (with_reducible refine (G _).mono ?_); rintro e w8 ⟨rfl, hb⟩; have c0 : w8.cell? ⟨xb, 0, none⟩ = some (.int .i64 s) := cell_keep hb (by assumption); have c1 : w8.cell? ⟨wr.heap.size, 0, none⟩ = some (.int .i64 p) := cell_keep hb (by assumption); have c2 : w8.cell? ⟨wr.heap.size, 1, none⟩ = some (.int .i64 q) := cell_keep hb (by assumption); have c3 : Below wr.heap.size wr w8 := below_step' (by first | assumption | exact Below.drew (by assumption)) hb; clear hb)
                | (go_at_call 24; (with_reducible refine (G' _).mono ?_); rintro e w8 ⟨rfl, hb⟩; have c0 : w8.cell? ⟨xb, 0, none⟩ = some (.int .i64 s) := cell_keep hb (by assumption); have c1 : w8.cell? ⟨wr.heap.size, 0, none⟩ = some (.int .i64 p) := cell_keep hb (by assumption); have c2 : w8.cell? ⟨wr.heap.size, 1, none⟩ = some (.int .i64 q) := cell_keep hb (by assumption); have c3 : Below wr.heap.size wr w8 := below_step' (by first | assumption | exact Below.drew (by assumption)) hb; clear hb))
              have HE6 := Lib.hid (HEw.out.keep c3)
              clear c0 c1 c2 c3 hB3 hx2 hy3 hy4 N N' I I' G G' hp hq
              go_wp2
              go_roundw
              case rel => exact ⟨j + 1, by omega, by go_num, HE6.out⟩
              case measure => simp [intOf]; omega
            · obtain rfl : j = 2 := by omega
              have HE6 := Lib.hid hE.env.env
              clear hE
              go_wp2
              go_roundw
              case rel => exact ⟨k + 1, by omega, by go_num, HE6.out⟩
              case measure => simp [intOf]; omega
      · obtain rfl : k = 3 := by omega
        go_wp2_with (go_at_call 7; (with_reducible refine (awake_any _).mono ?_); rintro e w9 ⟨rfl, hb9⟩)
        go_ret
        exact ⟨rfl, hE.below.trans (hb9.mono hE.below.size)⟩
end Go.Proofs.Ytcgeflblcpdnkaa
