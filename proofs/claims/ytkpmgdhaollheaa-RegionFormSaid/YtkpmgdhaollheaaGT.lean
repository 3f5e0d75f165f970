/- landaidkeep for regions: New, Next (which turns only the tape's block), Mod, Rect. -/
import Derived.Test.YtkpmgdhaollheaaGS
import Derived.BigQuiet
import Derived.Deep.QuietTactic
import Derived.RegionTactic
namespace Go.Proofs.Ytkpmgdhaollheaa
open Go.RowKit Go.WideShapes Go.ChangeShapes Go.ChangeAt

def modI (k n : Int) : Int := if n < 1 then 0 else k % n

theorem modI_range (k n : Int) (h : 1 ≤ n) : 0 ≤ modI k n ∧ modI k n < n := by
  unfold modI
  rw [if_neg (by omega)]
  exact ⟨Int.emod_nonneg _ (by omega), Int.emod_lt_of_pos _ (by omega)⟩

theorem modI_neg {k n : Int} (hn : 1 ≤ n) (h : k.tmod n < 0) : k.tmod n + n = modI k n := by
  unfold modI
  rw [if_neg (by omega)]
  have h1 := Int.tmod_def k n
  have h2 := Int.emod_def k n
  have h3 := Int.emod_nonneg k (show n ≠ 0 by omega)
  have h4 := Int.emod_lt_of_pos k (show 0 < n by omega)
  have h5 := Int.tmod_eq_emod (a := k) (b := n)
  rw [h5] at h ⊢
  split at h
  · omega
  · rename_i hc
    rw [if_neg hc] at *
    have : ((n.natAbs : Nat) : Int) = n := by omega
    omega

theorem modI_pos {k n : Int} (hn : 1 ≤ n) (h : ¬ k.tmod n < 0) : k.tmod n = modI k n := by
  unfold modI
  rw [if_neg (by omega)]
  have h3 := Int.emod_nonneg k (show n ≠ 0 by omega)
  have h4 := Int.emod_lt_of_pos k (show 0 < n by omega)
  have h5 := Int.tmod_eq_emod (a := k) (b := n)
  rw [h5] at h ⊢
  split
  · omega
  · rename_i hc
    rw [if_neg hc] at h
    have : ((n.natAbs : Nat) : Int) = n := by omega
    omega

set_option maxHeartbeats 400000 in
theorem mod_any (k n : Int) (hn : n ≤ 9223372036854775807) (w : World) :
    Calls Try.prog 77 #[.int .i64 k, .int .i64 n] w fun e w' => e = .returned (.int .i64 (modI k n)) ∧ w = w' := by
  by_cases h : n < 1
  · go_enter Try.func77, Try.ntmps77
    go_wp2
    go_ret
    exact ⟨ret_int (by simp [modI, h]), rfl⟩
  · have h0 : (n == 0) = false := beq_eq_false_iff_ne.2 (by omega)
    have h1 : n ≠ 0 := by omega
    have h2 : n ≠ -1 := by omega
    go_enter Try.func77, Try.ntmps77
    go_wp2
    · go_ret
      rename_i hk
      have hb := modI_range k n (by omega)
      exact ⟨ret_int (by rw [modI_neg (by omega) hk]; exact wrap_in (by omega) (by omega)), rfl⟩
    · go_ret
      exact ⟨ret_int (modI_pos (by omega) (by omega)), rfl⟩

/-- A tape in memory: its m numbers are g 0, g 1, ..; the next one is number k. -/
structure TapeAt (w : World) (tb m : Nat) (g : Nat → Int) (k : Nat) : Prop where
  l : ∃ p c, w.cell? ⟨tb, 0, none⟩ = some (.slice p m c) ∧ ∀ j, j < m → ∃ b o, p = some ⟨b, o, none⟩ ∧ b < tb ∧ w.cell? ⟨b, o + j, none⟩ = some (.int .i64 (g j))
  pos : w.cell? ⟨tb, 1, none⟩ = some (.int .i64 k)
  free : w.frozen? ⟨tb, 1, none⟩ = false
  most : m ≤ 400
  le : k ≤ m
  lt : tb < w.heap.size

theorem TapeAt.keep {w w' : World} {tb m : Nat} {g : Nat → Int} {k B : Nat} (h : TapeAt w tb m g k) (hb : Below B w w') (hB : tb < B) : TapeAt w' tb m g k where
  l := by
    obtain ⟨p, c, h1, h2⟩ := h.l
    refine ⟨p, c, (hb.cell (by exact hB)).trans h1, fun j hj => ?_⟩
    obtain ⟨b, o, e, hb1, hc⟩ := h2 j hj
    exact ⟨b, o, e, hb1, (hb.cell (by show b < B; omega)).trans hc⟩
  pos := (hb.cell (by exact hB)).trans h.pos
  free := (hb.frozen (by exact hB)).trans h.free
  most := h.most
  le := h.le
  lt := Nat.lt_of_lt_of_le h.lt hb.size

theorem TapeAt.next {w : World} {tb m : Nat} {g : Nat → Int} {k : Nat} (h : TapeAt w tb m g k) (hk : k < m) (q : Nat) : TapeAt ((w.drewN q).setCell ⟨tb, 1, none⟩ (.int .i64 ((k : Int) + 1))) tb m g (k + 1) where
  l := by
    obtain ⟨p, c, h1, h2⟩ := h.l
    refine ⟨p, c, ?_, fun j hj => ?_⟩
    · rw [World.cell?_setCell_other _ _ _ _ (by simp)]
      exact h1
    · obtain ⟨b, o, e, hb1, hc⟩ := h2 j hj
      refine ⟨b, o, e, hb1, ?_⟩
      rw [World.cell?_setCell_other _ _ _ _ (by intro e; simp only [Addr.mk.injEq] at e; omega)]
      exact hc
  pos := World.cell?_setCell_same' _ _ _ (by show (w.cell? _).isSome = true; rw [h.pos]; rfl)
  free := by rw [World.frozen?_setCell]; exact h.free
  most := h.most
  le := hk
  lt := by simpa using h.lt

set_option maxHeartbeats 1000000 in
theorem next_some (w : World) (tb m : Nat) (g : Nat → Int) (k : Nat) (h : TapeAt w tb m g k) (hk : k < m) (n : Int) (hn : n ≤ 9223372036854775807) :
    Calls Try.prog 45 #[.pointer (some ⟨tb, 0, none⟩), .int .i64 n] w fun e w' => e = .returned (.int .i64 (modI (g k) n)) ∧ w.grownBy w' (some tb) ∧ TapeAt w' tb m g (k + 1) := by
  obtain ⟨p, c, h1, h2⟩ := h.l
  obtain ⟨b, o, rfl, hb1, hc⟩ := h2 k hk
  have hp := h.pos
  have hf := h.free
  have hm := h.most
  have HN := Lib.hid (h.next hk)
  have hkm : (k : Int) < (m : Int) := by omega
  have hbt : b ≠ tb := by omega
  have hlt := h.lt
  clear h h2
  generalize g k = gk at *
  go_enter Try.func45, Try.ntmps45
  go_wp2
  go_quiet (fail)
  go_wp2
  have hcon := fun w => (mod_any gk n hn w).mono fun e w' h => (⟨h.1, h.2.symm⟩ : e = .returned (.int .i64 (modI gk n)) ∧ w' = w)
  have c0 : ((w.drewN nq).setCell ⟨tb, 1, none⟩ (.int .i64 ((k : Int) + 1))).cell? ⟨tb, 0, none⟩ = some (.slice (some ⟨b, o, none⟩) m c) := by
    rw [World.cell?_setCell_other _ _ _ _ (by simp)]; exact h1
  have c1 : ((w.drewN nq).setCell ⟨tb, 1, none⟩ (.int .i64 ((k : Int) + 1))).cell? ⟨tb, 1, none⟩ = some (.int .i64 ((k : Int) + 1)) :=
    World.cell?_setCell_same' _ _ _ (by show (w.cell? _).isSome = true; rw [hp]; rfl)
  have c2 : ((w.drewN nq).setCell ⟨tb, 1, none⟩ (.int .i64 ((k : Int) + 1))).cell? ⟨b, o + k, none⟩ = some (.int .i64 gk) := by
    rw [World.cell?_setCell_other _ _ _ _ (by intro e; simp only [Addr.mk.injEq] at e; omega)]; exact hc
  have hB : w.grownBy ((w.drewN nq).setCell ⟨tb, 1, none⟩ (.int .i64 ((k : Int) + 1))) (some tb) :=
    ⟨rfl, rfl, rfl, by simp, fun j _ hj => Below.heap_setCell (w.drewN nq) _ _ _ (fun e => hj (by rw [e]))⟩
  have HT : Hid (TapeAt ((w.drewN nq).setCell ⟨tb, 1, none⟩ (.int .i64 ((k : Int) + 1))) tb m g (k + 1)) := HN.out nq
  clear HN h1 hp hf hc
  generalize (w.drewN nq).setCell ⟨tb, 1, none⟩ (.int .i64 ((k : Int) + 1)) = w1 at *
  go_quiet ((go_at_call 77; exact Calls.quiet_of_same (hcon _)))
  go_wp2
  go_ret
  exact ⟨rfl, ⟨hB.os, hB.tape, hB.output, hB.size, hB.block⟩, ⟨HT.out.l, HT.out.pos, HT.out.free, HT.out.most, HT.out.le, HT.out.lt⟩⟩

set_option maxHeartbeats 1000000 in
theorem next_none (w : World) (tb m : Nat) (g : Nat → Int) (h : TapeAt w tb m g m) (n : Int) :
    Calls Try.prog 45 #[.pointer (some ⟨tb, 0, none⟩), .int .i64 n] w fun e w' => e = .returned (.int .i64 0) ∧ ∃ q, w' = w.drewN q := by
  obtain ⟨p, c, h1, h2⟩ := h.l
  have hp := h.pos
  clear h h2
  go_enter Try.func45, Try.ntmps45
  go_wp2
  go_quiet (fail)
  go_wp2
  go_ret
  exact ⟨rfl, _, rfl⟩

/-- Some tape. -/
def Tape (w : World) (tb : Nat) : Prop := ∃ m g k, TapeAt w tb m g k
theorem Tape.keep {w w' : World} {tb B : Nat} (h : Tape w tb) (hb : Below B w w') (hB : tb < B) : Tape w' tb := by
  obtain ⟨m, g, k, h⟩ := h
  exact ⟨m, g, k, h.keep hb hB⟩
theorem Tape.lt {w : World} {tb : Nat} (h : Tape w tb) : tb < w.heap.size := by
  obtain ⟨m, g, k, h⟩ := h
  exact h.lt

/-- A number from 0 to n - 1; 0 where there is none. -/
def InMod (x n : Int) : Prop := 0 ≤ x ∧ (1 ≤ n → x < n) ∧ (n < 1 → x = 0)
theorem inMod (k n : Int) : InMod (modI k n) n := by
  by_cases h : n < 1
  · have e : modI k n = 0 := by unfold modI; rw [if_pos h]
    exact ⟨by omega, fun _ => by omega, fun _ => e⟩
  · have := modI_range k n (by omega)
    exact ⟨this.1, fun _ => this.2, fun _ => by omega⟩

theorem next_any (w : World) (tb : Nat) (h : Tape w tb) (n : Int) (hn : n ≤ 9223372036854775807) :
    Calls Try.prog 45 #[.pointer (some ⟨tb, 0, none⟩), .int .i64 n] w fun e w' => ∃ x, e = .returned (.int .i64 x) ∧ InMod x n ∧ w.grownBy w' (some tb) ∧ Tape w' tb := by
  obtain ⟨m, g, k, h⟩ := h
  by_cases hk : k < m
  · refine (next_some w tb m g k h hk n hn).mono ?_
    rintro e w' ⟨rfl, hb, ht⟩
    exact ⟨_, rfl, inMod _ _, hb, m, g, _, ht⟩
  · obtain rfl : k = m := by have := h.le; omega
    refine (next_none w tb k g h n).mono ?_
    rintro e w' ⟨rfl, q, rfl⟩
    exact ⟨0, rfl, ⟨by omega, fun _ => by omega, fun _ => rfl⟩, ⟨rfl, rfl, rfl, Nat.le_refl _, fun _ _ _ => rfl⟩, k, g, k, ⟨h.l, h.pos, h.free, h.most, h.le, h.lt⟩⟩

/-- A slice's length is at most its capacity. -/
def CapAt (v : Value) : Prop := ∀ p n c, v = .slice p n c → n ≤ c

theorem open_cap {H : Type} {enc : TypeId × Value → H} {P : Program} {W : World} {t e : TypeId} {k : IntKind} {base : Nat} {v : Value} {d : DataW H} {ps : List MemPlace} (hu : P.underlying t = some (.slice e)) (he : P.underlying e = some (.int k)) (hc : P.cellsOf e = 1)
    (hok : Value.okWide P W .any base t v) (h : DataW.Trod enc P W 0 (fun _ => true) true t v d ps) : CapAt v := by
  obtain ⟨a0, len, cap, rfl⟩ := okWide_slice hu hok
  intro p n c he'
  cases he'
  obtain ⟨fuel, hf⟩ := h
  rcases open_ints hu he hc hf with ⟨hcs, _⟩ | ⟨a, len', cap', zs, hcs, _, hl, _⟩
  · simp [Value.cells] at hcs
    omega
  · simp [Value.cells] at hcs
    omega

set_option maxHeartbeats 400000 in
theorem new_any (v : Value) (n : Nat) (g : Nat → Int) (w : World) (h : IntsAt .i64 w v n g) (hcap : CapAt v) :
    Calls Try.prog 13 #[v] w fun e w' => e = .returned (.pointer (some ⟨w.heap.size, 0, none⟩)) ∧ Below w.heap.size w w' ∧ Tape w' w.heap.size ∧ w'.heap.size = w.heap.size + 1 := by
  obtain ⟨p, cap, rfl, hm, hc⟩ := h
  have hm' : (n : Int) ≤ 9223372036854775807 := by unfold maxLen at hm; omega
  have hcp : n ≤ cap := hcap _ _ _ rfl
  obtain ⟨m, hmin, hmn, hm4⟩ : ∃ m : Nat, min (n : Int) 400 = (m : Int) ∧ m ≤ n ∧ m ≤ 400 := by
    by_cases h4 : n ≤ 400
    · exact ⟨n, by omega, by omega, h4⟩
    · exact ⟨400, by omega, by omega, by omega⟩
  have hmc : (m : Int) ≤ (cap : Int) := by omega
  have fin : Tape (w.alloc (.cells #[.slice p m cap, .int .i64 0] 64)) w.heap.size := by
    refine ⟨m, g, 0, ⟨⟨p, cap, by simp, fun j hj => ?_⟩, by simp, by simp, hm4, Nat.zero_le _, by simp⟩⟩
    obtain ⟨_, b, o, e, hb, hcj⟩ := hc j (by omega)
    exact ⟨b, o, e, hb, by rw [World.cell?_alloc_past _ _ _ (by exact hb)]; exact hcj⟩
  have HF := Lib.hid fin
  clear fin
  by_cases h0 : n = 0
  · subst h0
    obtain rfl : m = 0 := by omega
    clear hmn hm4 hmc
    go_enter Try.func13, Try.ntmps13
    go_wp2
    go_ret
    exact ⟨rfl, (Below.refl _ _).alloc (Nat.le_refl _) _, HF.out, by simp⟩
  · obtain ⟨_, b, o, rfl, hb, _⟩ := hc 0 (by omega)
    go_enter Try.func13, Try.ntmps13
    go_wp2
    go_ret
    exact ⟨rfl, (Below.refl _ _).alloc (Nat.le_refl _) _, HF.out, by simp⟩


theorem Tape.grown {w w' : World} {tb : Nat} {row : Option Nat} (h : Tape w tb) (hg : w.grownBy w' row) (hr : ∀ k, row = some k → tb < k) : Tape w' tb :=
  h.keep (B := tb + 1) ⟨hg.os, hg.tape, hg.output, hg.size, fun k hk => hg.block k (by have := h.lt; omega) fun e => by have := hr k e.symm; omega⟩ (Nat.lt_succ_self _)
theorem Tape.alloc {w : World} {tb : Nat} (h : Tape w tb) (o : Obj) : Tape (w.alloc o) tb := h.grown (World.grownBy_alloc w o none) (by simp)
theorem BoxAt.but {w w' : World} {b : Nat} {cs : Array Value} {t : TypeId} {row : Option Nat} (h : BoxAt w b cs t) (hg : w.grownBy w' row) (hne : some b ≠ row) : BoxAt w' b cs t := (hg.block b h.lt hne).trans h

/-- A rectangle within the first side by side squares. -/
def InSide (n : Int) (r : Rc) : Prop := 0 ≤ r.l ∧ r.l < r.r ∧ r.r ≤ n ∧ 0 ≤ r.b ∧ r.b < r.h ∧ r.h ≤ n
theorem InSide.proper {n : Int} {r : Rc} (h : InSide n r) (hn : n ≤ 16384) : properR r := by
  obtain ⟨a, b, c, d, e, f⟩ := h
  exact ⟨a, b, by omega, d, e, by omega⟩

theorem gr_box {w w' : World} {tb b : Nat} {o : Obj} {cs : Array Value} {t : TypeId} (h : (w.alloc o).grownBy w' (some tb)) : w.grownBy w' (some tb) := gr_trans (World.grownBy_alloc w o (some tb)) h

theorem gr_setNew {w w' : World} {row : Option Nat} (h : w.grownBy w' row) {b : Nat} (hb : w.heap.size ≤ b) (i : Nat) (u : Value) : w.grownBy (w'.setCell ⟨b, i, none⟩ u) row :=
  ⟨h.os, h.tape, h.output, by have := h.size; simpa using this, fun k hk hr => (Below.heap_setCell w' _ _ _ (by first | (show b ≠ k; omega) | (show k ≠ b; omega))).trans (h.block k hk hr)⟩
theorem Tape.set {w : World} {tb b : Nat} (h : Tape w tb) (hb : tb < b) (i : Nat) (u : Value) : Tape (w.setCell ⟨b, i, none⟩ u) tb :=
  h.keep (Below.setCell (Below.refl (tb + 1) w) (by exact hb) u) (Nat.lt_succ_self _)
theorem ret_rect {fn : Func} {c : Nat} (hr : fn.results = #[.cell c 39]) {tmps : Array Value} {W : World} {x y z u : Value} {p : Nat} (hp : tmps.getD c undef = .pointer (some ⟨p, 0, none⟩)) (hb : BoxAt W p #[x, y, z, u] 39) :
    (results fn tmps).run Try.prog W = .ok (.agg #[x, y, z, u]) W := by
  have z0 := hb.cell (i := 0) rfl
  have z1 := hb.cell (i := 1) rfl
  have z2 := hb.cell (i := 2) rfl
  have z3 := hb.cell (i := 3) rfl
  have hp' : tmps[c]?.getD undef = .pointer (some ⟨p, 0, none⟩) := by simpa using hp
  simp [results, hr, hp', Try.isAgg39, Try.sizeOf39, loadCellsFrom, go_sem, z0, z1, z2, z3]
/-- A region that is held in a box of its own. -/
theorem ret_reg {fn : Func} {c : Nat} (hr : fn.results = #[.cell c 27]) {tmps : Array Value} {W : World} {v : Value} {p : Nat} (hp : tmps.getD c undef = .pointer (some ⟨p, 0, none⟩)) (hb : BoxAt W p #[v] 27) :
    (results fn tmps).run Try.prog W = .ok (.agg #[v]) W := by
  have z0 := hb.cell (i := 0) rfl
  have hp' : tmps[c]?.getD undef = .pointer (some ⟨p, 0, none⟩) := by simpa using hp
  simp [results, hr, hp', Try.isAgg27, Try.sizeOf27, loadCellsFrom, go_sem, z0]

set_option maxHeartbeats 2000000 in
set_option maxRecDepth 100000 in
theorem rect_any (w : World) (tb : Nat) (h : Tape w tb) (n : Int) (h1 : 1 ≤ n) (h2 : n ≤ 1000) :
    Calls Try.prog 46 #[.pointer (some ⟨tb, 0, none⟩), .int .i64 n] w fun e w' => ∃ r : Rc, e = .returned (.agg #[.int .i64 r.l, .int .i64 r.b, .int .i64 r.r, .int .i64 r.h]) ∧ InSide n r ∧ w.grownBy w' (some tb) ∧ Tape w' tb := by
  have hlt := h.lt
  have hN0 := next_any (w.alloc (.cells #[.int .i64 0, .int .i64 0, .int .i64 0, .int .i64 0] 39)) tb (h.alloc _) n (by omega)
  clear h
  go_enter Try.func46, Try.ntmps46
  go_wp2_with fail
  refine hN0.mono ?_
  rintro e w1 ⟨x, rfl, ⟨x0, x1, _⟩, hg1, ht1⟩
  have hbx := (BoxAt.new w #[.int .i64 0, .int .i64 0, .int .i64 0, .int .i64 0] 39).but hg1 (by simp; omega)
  have hG := gr_trans (World.grownBy_alloc w (.cells #[.int .i64 0, .int .i64 0, .int .i64 0, .int .i64 0] 39) (some tb)) hg1
  have x2 := x1 h1
  have hN1 := next_any w1 tb ht1 n (by omega)
  clear hN0 ht1 hg1 x1
  go_wp2_with fail
  refine hN1.mono ?_
  rintro e w2 ⟨y, rfl, ⟨y0, y1, _⟩, hg2, ht2⟩
  have hbx2 := hbx.but hg2 (by simp; omega)
  have hG2 := gr_trans hG hg2
  have y2 := y1 h1
  have hN2 := next_any w2 tb ht2 (n - x) (by omega)
  have wx : wrap64 (n - x) = n - x := wrap_in (by omega) (by omega)
  have wy : wrap64 (n - y) = n - y := wrap_in (by omega) (by omega)
  clear hN1 ht2 hg2 y1 hbx hG
  go_wp2_with fail
  refine hN2.mono ?_
  rintro e w3 ⟨u, rfl, ⟨u0, u1, _⟩, hg3, ht3⟩
  have hbx3 := hbx2.but hg3 (by simp; omega)
  have hG3 := gr_trans hG2 hg3
  have u2 := u1 (by omega)
  have hN3 := next_any w3 tb ht3 (n - y) (by omega)
  have wu : wrap64 (x + 1 + u) = x + 1 + u := wrap_in (by omega) (by omega)
  clear hN2 ht3 hg3 u1 hbx2 hG2
  go_wp2_with fail
  refine hN3.mono ?_
  rintro e w4 ⟨v, rfl, ⟨v0, v1, _⟩, hg4, ht4⟩
  have hbx4 := hbx3.but hg4 (by simp; omega)
  have hG4 := gr_trans hG3 hg4
  have v2 := v1 (by omega)
  have wv : wrap64 (y + 1 + v) = y + 1 + v := wrap_in (by omega) (by omega)
  have c0 := hbx4.cell (i := 0) rfl
  have c1 := hbx4.cell (i := 1) rfl
  have c2 := hbx4.cell (i := 2) rfl
  have c3 := hbx4.cell (i := 3) rfl
  have f0 := hbx4.free 0
  have f1 := hbx4.free 1
  have f2 := hbx4.free 2
  have f3 := hbx4.free 3
  have HX := Lib.hid hbx4
  have HT := Lib.hid ht4
  have HG := Lib.hid hG4
  clear hN3 ht4 hg4 v1 hbx3 hbx4 hG3 hG4
  go_wp2
  have HX1 := (((HX.out.set 0 (.int .i64 x)).set 1 (.int .i64 y)).set 2 (.int .i64 (x + 1 + u))).set 3 (.int .i64 (y + 1 + v))
  refine bodyPost_ret (ret_rect rfl rfl HX1) rfl ⟨⟨x, y, x + 1 + u, y + 1 + v⟩, rfl, ⟨x0, by show x < x + 1 + u; omega, by show x + 1 + u ≤ n; omega, y0, by show y < y + 1 + v; omega, by show y + 1 + v ≤ n; omega⟩, ?_, ?_⟩
  · exact gr_setNew (gr_setNew (gr_setNew (gr_setNew HG.out (Nat.le_refl _) _ _) (Nat.le_refl _) _ _) (Nat.le_refl _) _ _) (Nat.le_refl _) _ _
  · exact (((HT.out.set hlt _ _).set hlt _ _).set hlt _ _).set hlt _ _
end Go.Proofs.Ytkpmgdhaollheaa
