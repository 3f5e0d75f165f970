/- exact.Shares and the reference's answer the same. -/
import Derived.Test.YtdiogfjbjdiclaaRefI
import Derived.Test.YtdiogfjbjdiclaaTape
import Derived.Test.YtdiogfjbjdiclaaPost
import Derived.Test.YtdiogfjbjdiclaaStable
namespace Go.Proofs.Ytdiogfjbjdiclaa
open Go.RowKit

theorem IntsAt.keep {k : IntKind} {w w' : World} {v : Value} {n : Nat} {g : Nat → Int} {B : Nat} (h : IntsAt k w v n g) (hb : Below B w w') (hB : w.heap.size ≤ B) : IntsAt k w' v n g := by
  obtain ⟨p, cap, rfl, hn, hc⟩ := h
  refine ⟨p, cap, rfl, hn, fun j hj => ?_⟩
  obtain ⟨h1, b, off, h2, h3, h4⟩ := hc j hj
  exact ⟨h1, b, off, h2, Nat.lt_of_lt_of_le h3 hb.size, (hb.cell (by show b < B; omega)).trans h4⟩

theorem below_drewN' {B : Nat} {w : World} (q : Nat) : Below B w (w.drewN q) := ⟨rfl, rfl, rfl, Nat.le_refl _, fun _ _ => rfl⟩

set_option maxHeartbeats 400000 in
theorem ints_zero (p q : Option Addr) (c d : Nat) (w : World) :
    Calls Try.prog 25 #[.slice p 0 c, .slice q 0 d] w fun e w' => e = .returned (.bool true) ∧ w = w' := by
  go_enter Try.func25, Try.ntmps25
  go_wp2
  go_loop [13] (fun v => v = .int .i64 0) (fun _ => 0)
  case atStart => exact rfl
  case round =>
    obtain rfl := hrel
    go_wp2
    go_ret
    exact ⟨rfl, rfl⟩

/-- What Ints says of two lists, whatever was laid since. -/
def Alike (pv rv : Value) (w3 : World) : Prop :=
  ∀ w4, Below w3.heap.size w3 w4 → Calls Try.prog 25 #[pv, rv] w4 fun e w5 => e = .returned (.bool true) ∧ ∃ q, w5 = w4.drewN q

/-- The two Shares, one behind the other. -/
def Pair (T : Int) (v : Value) (w : World) (e : Ending) (w' : World) : Prop :=
  ∃ (pv : Value) (ev : Int), e = .returned (.tuple #[pv, .int .i64 ev]) ∧ Below w.heap.size w w' ∧
    ∀ w2, Below w'.heap.size w' w2 → Calls Try.prog 24 #[.int .i64 T, v] w2 fun e2 w3 => ∃ rv, e2 = .returned (.tuple #[rv, .int .i64 ev]) ∧ Below w2.heap.size w2 w3 ∧ Alike pv rv w3

theorem alike_nil (p q : Option Addr) (c d : Nat) (w : World) : Alike (.slice p 0 c) (.slice q 0 d) w := fun w4 _ => by
  refine (ints_zero p q c d w4).mono ?_
  rintro e w' ⟨rfl, rfl⟩
  exact ⟨rfl, 0, rfl⟩

theorem alike_rows {n : Nat} (hn : n < 65) {b1 b2 c1 c2 : Nat} {z : Nat → Int} {w : World} (h1 : w.rowIs b1 3 n (fun q => .int .i64 (z q))) (h2 : w.rowIs b2 3 n (fun q => .int .i64 (z q))) (l1 : b1 < w.heap.size) (l2 : b2 < w.heap.size) :
    Alike (.slice (some ⟨b1, 0, none⟩) n c1) (.slice (some ⟨b2, 0, none⟩) n c2) w := fun w4 hb =>
  ints_true n (by omega) b1 0 c1 b2 0 c2 z w4
    (fun j hj => by rw [hb.cell (by exact l1), Nat.zero_add]; exact h1.cell hj)
    (fun j hj => by rw [hb.cell (by exact l2), Nat.zero_add]; exact h2.cell hj)

theorem rowIs_lt {w : World} {b : Nat} {t : TypeId} {n : Nat} {v : Nat → Value} (h : w.rowIs b t n v) (hn : 0 < n) : b < w.heap.size := by
  have hc := h.cell hn
  obtain ⟨c, e', fr, hh, _⟩ := Sort.cells_of_cell? hc
  exact (Array.getElem?_eq_some_iff.1 hh).1

theorem sum_zero {ws : Nat → Nat} {n : Nat} (h : sumTo ws n = 0) : ∀ j, j < n → ws j = 0 := fun j hj => by
  have := le_sumTo ws hj
  omega

set_option maxHeartbeats 1000000 in
theorem shares_pair (T : Int) (v : Value) (n : Nat) (g : Nat → Int) (w : World) (h : IntsAt .i64 w v n g) :
    Calls Try.prog 23 #[.int .i64 T, v] w (Pair T v w) := by
  obtain ⟨p, cap, rfl, hm, hc⟩ := h
  by_cases hn : 64 < n
  · refine (shares_limit T n hn p cap w).mono ?_
    rintro e w' ⟨rfl, rfl⟩
    refine ⟨_, _, rfl, Below.refl _ _, fun w2 _ => ?_⟩
    refine (refShares_limit T n hn p cap w2).mono ?_
    rintro e w' ⟨rfl, rfl⟩
    exact ⟨_, rfl, Below.refl _ _, alike_nil _ _ _ _ _⟩
  have hn : n < 65 := by omega
  obtain ⟨wb, wo, hp, hlt, hcell⟩ : ∃ wb wo, (0 < n → p = some ⟨wb, wo, none⟩) ∧ (0 < n → wb < w.heap.size) ∧ ∀ j, j < n → w.cell? ⟨wb, wo + j, none⟩ = some (.int .i64 (g j)) := by
    by_cases h0 : n = 0
    · exact ⟨0, 0, fun h => by omega, fun h => by omega, fun j hj => by omega⟩
    · obtain ⟨_, wb, wo, e, hb, _⟩ := hc 0 (by omega)
      refine ⟨wb, wo, fun _ => e, fun _ => hb, fun j hj => ?_⟩
      obtain ⟨_, b', o', e', _, hcj⟩ := hc j hj
      rw [e] at e'
      simp only [Option.some.injEq, Addr.mk.injEq] at e'
      obtain ⟨rfl, rfl, _⟩ := e'
      exact hcj
  have stay : ∀ w2, Below w.heap.size w w2 → ∀ j, j < n → w2.cell? ⟨wb, wo + j, none⟩ = some (.int .i64 (g j)) := fun w2 hb j hj => by
    rw [hb.cell (by show wb < _; exact hlt (by omega))]
    exact hcell j hj
  by_cases hbad : (amtB T && okTo g n) = false
  · -- an error
    have href : ∀ w2, Below w.heap.size w w2 → Calls Try.prog 24 #[.int .i64 T, .slice p n cap] w2 fun e2 w3 => ∃ rv, e2 = .returned (.tuple #[rv, .int .i64 2]) ∧ Below w2.heap.size w2 w3 ∧ Alike (.slice none 0 0) rv w3 := fun w2 hb => by
      refine (refShares_bad T n hn p cap wb wo g w2 hp (stay w2 hb) hbad).mono ?_
      rintro e w' ⟨rfl, rfl⟩
      exact ⟨_, rfl, Below.refl _ _, alike_nil _ _ _ _ _⟩
    have hex : Calls Try.prog 23 #[.int .i64 T, .slice p n cap] w fun e w' => e = .returned (.tuple #[.slice none 0 0, .int .i64 2]) ∧ w = w' := by
      by_cases hT : amtB T = true
      · have hok : okTo g n = false := by simpa [hT] using hbad
        obtain ⟨m, hm1, hm2, hm3⟩ := okTo_f hok
        obtain rfl := hp (by omega)
        exact shares_weight T n hn hT wb wo cap g w hcell m hm1 hm2 hm3
      · exact shares_total T n hn (by simpa using hT) p cap w
    refine hex.mono ?_
    rintro e w' ⟨rfl, rfl⟩
    exact ⟨_, _, rfl, Below.refl _ _, href⟩
  have hgood : amtB T = true ∧ okTo g n = true := by simpa using hbad
  obtain ⟨hT, hok⟩ := hgood
  have hok := (okTo_iff g n).1 hok
  obtain ⟨T, rfl, hTb⟩ := amt_nat hT
  clear hbad hT
  have hT := hTb
  obtain ⟨ws, hws⟩ : ∃ ws : Nat → Nat, ws = fun j => (g j).toNat := ⟨_, rfl⟩
  have hg : ∀ j, j < n → g j = (ws j : Nat) ∧ ws j ≤ 1099511627776 := fun j hj => by
    have := amtB_iff.1 (hok j hj)
    rw [hws]
    constructor <;> simp only <;> omega
  have hcw : ∀ w2, Below w.heap.size w w2 → ∀ j, j < n → w2.cell? ⟨wb, wo + j, none⟩ = some (.int .i64 (ws j)) := fun w2 hb j hj => by rw [stay w2 hb j hj, (hg j hj).1]
  by_cases hS : sumTo ws n = 0
  · have hz := sum_zero hS
    have hcz : ∀ w2, Below w.heap.size w w2 → ∀ j, j < n → w2.cell? ⟨wb, wo + j, none⟩ = some (.int .i64 0) := fun w2 hb j hj => by rw [hcw w2 hb j hj, hz j hj]; rfl
    by_cases h0 : n = 0
    · subst h0
      refine (shares_none T hT p cap w).mono ?_
      rintro e w' ⟨rfl, hb⟩
      refine ⟨_, _, rfl, hb, fun w2 hb2 => ?_⟩
      refine (refShares_zero T hT 0 (by omega) p cap 0 0 w2 (fun h => by omega) (fun j hj => by omega)).mono ?_
      rintro e w' ⟨b, rfl, hb3, _⟩
      exact ⟨_, rfl, hb3, alike_nil _ _ _ _ _⟩
    · obtain rfl := hp (by omega)
      refine (shares_zero n hn T hT wb wo cap w (hcz w (Below.refl _ _))).mono ?_
      rintro e w' ⟨rfl, hb, hr⟩
      refine ⟨_, _, rfl, hb, fun w2 hb2 => ?_⟩
      have hbw := hb.trans (hb2.mono hb.size)
      refine (refShares_zero T hT n hn _ cap wb wo w2 (fun _ => rfl) (hcz w2 hbw)).mono ?_
      rintro e w3 ⟨b, rfl, hb3, hr3⟩
      have l1 := rowIs_lt hr (by omega)
      exact ⟨_, rfl, hb3, alike_rows hn (World.rowIs.of_block (World.rowIs.of_block hr (hb2.block _ l1)) (hb3.block _ (Nat.lt_of_lt_of_le l1 hb2.size))) hr3 (Nat.lt_of_lt_of_le l1 (Nat.le_trans hb2.size hb3.size)) (rowIs_lt hr3 (by omega))⟩
  · have hn0 : 0 < n := by
      by_cases h0 : n = 0
      · rw [h0] at hS; exact absurd rfl hS
      · omega
    obtain rfl := hp hn0
    have hS0 : 0 < sumTo ws n := by omega
    have hSb := sumTo_bd ws 1099511627776 n (fun j hj => (hg j hj).2)
    refine (shares_ok n hn0 hn (stable_all (n - 1) (by omega)) T hT ws (fun j hj => (hg j hj).2) hS0 wb wo cap w (fun j hj => divOk_any _ _ (hi_small hT (le_sumTo ws hj) hS0) (by omega)) (hlt hn0) (hcw w (Below.refl _ _))).mono ?_
    rintro e w' ⟨rfl, f, hO, hb, hsz, hf, hr⟩
    refine ⟨_, _, rfl, hb, fun w2 hb2 => ?_⟩
    have hbw := hb.trans (hb2.mono hb.size)
    refine (refShares_ok T hT n hn0 hn ws f (fun j hj => (hg j hj).2) _ rfl hS0 hO hf cap wb wo w2 (hcw w2 hbw) (Nat.lt_of_lt_of_le (hlt hn0) hbw.size)).mono ?_
    rintro e w3 ⟨b, rfl, hb3, hr3⟩
    exact ⟨_, rfl, hb3, alike_rows hn (World.rowIs.of_block (World.rowIs.of_block hr (hb2.block _ hsz)) (hb3.block _ (Nat.lt_of_lt_of_le hsz hb2.size))) hr3 (Nat.lt_of_lt_of_le hsz (Nat.le_trans hb2.size hb3.size)) (rowIs_lt hr3 hn0)⟩
end Go.Proofs.Ytdiogfjbjdiclaa
