/- slices.Concat of two rows of edges. -/
import Derived.Test.YtclogmnokjcegaaGD
import Derived.Lib.AppendZeros
import Derived.Laws.AppendOwnNone
namespace Go.Proofs.Ytclogmnokjcegaa
open Go.RowKit

section
variable {P : Program} (w : World)
/-- A row behind a row. -/
theorem wpList_append_row {ops : Array Oper} {rest : List Oper} {o : Oper} {a : Act} {Q : Exit → Act → World → Prop} (hgd : o.guard = none) (s x : Operand) (t : TypeId)
    (ho : o.op = .call { callee := .builtin .append, args := #[s, x], argTypes := #[t, t] })
    (base : Nat) (e : TypeId) (i : TypeInfo) (z : Value) (size bytes : Nat) (ht : P.underlying t = some (.slice e)) (hi : P.info? e = some i) (hz : i.zero = some z)
    (hsize : i.size = size) (hby : i.bytes = bytes) (hzs : z.cells.size = size) (hsz : 0 < size)
    (v : Value) (n : Nat) (xs : List Value) (hs : a.eval s = v) (hown : w.ownsRow base e size v n xs)
    (B : Nat) (v2 : Value) (m : Nat) (news : List Value) (hx : a.eval x = v2) (h2 : w.ownsRow B e size v2 m news) (h1 : ∀ u ∈ news, u.oneCell' = true)
    (h63 : n + m ≤ maxLen) (hbytes : (n + m) * bytes ≤ 140737488355328) (hbase : base ≤ w.heap.size)
    (h : ∀ v' w', w'.ownsRow base e size v' (n + m) (xs ++ news) → w.grownBy w' v.ownBlock → wpList P ops Q rest (a.put o.dst v') w') : wpList P ops Q (o :: rest) a w := by
  rcases h2.2 with ⟨rfl, rfl⟩ | ⟨g, cap, cur, rfl, _⟩
  · have hn : news = [] := List.eq_nil_of_length_eq_zero (by simpa using h2.1)
    subst hn
    refine wpList_append_own_none hgd s x t ho base e i size ht hi v n xs hs hown hx ?_
    exact h v w (by simpa using hown) (World.grownBy.refl _ _)
  · exact wpList_append_own w hgd s x t ho base e i z size bytes ht hi hz hsize hby hzs hsz v n xs hs hown ⟨g, 0, none⟩ m cap news hx h2.1 (h2.cells rfl) h1 h63 hbytes hbase fun v' w' a b _ => h v' w' a b
end

/-- Seen from before the row was made, nothing has turned. -/
theorem gr_step {w0 w w' : World} {e : TypeId} {k n : Nat} {v : Value} {xs : List Value} (h0 : w0.grownBy w none) (hg : w.grownBy w' v.ownBlock) (h : w.ownsRow w0.heap.size e k v n xs) : w0.grownBy w' none :=
  ⟨hg.os.trans h0.os, hg.tape.trans h0.tape, hg.output.trans h0.output, Nat.le_trans h0.size hg.size, fun k hk _ =>
    (hg.block k (Nat.lt_of_lt_of_le hk h0.size) (fun e => by have := ownsRow_ge h k e.symm; omega)).trans (h0.block k hk (by simp))⟩
theorem below_of_gr {w w' : World} (h : w.grownBy w' none) : Below w.heap.size w w' := ⟨h.os, h.tape, h.output, h.size, fun k hk => h.block k hk (by simp)⟩
theorem gr_of_below {w w' : World} (h : Below w.heap.size w w') : w.grownBy w' none := ⟨h.os, h.tape, h.output, h.size, fun k hk _ => h.block k hk⟩

theorem oneE (l : List Ed) : ∀ u ∈ l.flatMap encE, u.oneCell' = true := by
  intro u hu
  obtain ⟨e, _, he⟩ := List.mem_flatMap.1 hu
  simp [encE] at he
  rcases he with rfl | rfl | rfl | rfl | rfl <;> rfl

set_option maxHeartbeats 1000000 in
set_option maxRecDepth 100000 in
theorem growE_any (n : Nat) (w : World) (hn : n ≤ 100000) :
    Calls Try.prog 110 #[.slice none 0 0, .int .i64 n] w fun e w' => ∃ v', e = .returned v' ∧ w'.ownsRow w.heap.size 101 5 v' 0 [] ∧ w.grownBy w' none := by
  obtain ⟨i0, hi, hz0, hz1, hz2⟩ := info_parts info_edge
  by_cases h0 : n = 0
  · subst h0
    go_enter Try.func110, Try.ntmps110
    go_wp2
    go_ret
    exact ⟨_, rfl, World.ownsRow_nil _ _ _ _, World.grownBy.refl _ _⟩
  · have hrun := Lib.run_append_nil_zeros (P := Try.prog) w 98 3 98 101 i0 _ .i64 .i64 Try.underlying98 Try.underlying3 hi hz0 n (by omega) (by rw [hz1]; decide) (by omega) (by rw [hz2]; omega)
    have hg1 := grownCap_ge w n 0 101
    have hg2 := grownCap_le_maxLen w n 0 101 (by unfold maxLen; omega)
    generalize grownCap w n 0 101 = c at *
    have hn0 : ¬ ((n : Int) < 0) := by omega
    have hn1 : (0 : Int) < (n : Int) := by omega
    have hn2 : (n : Int) ≤ 100000 := by omega
    have hc0 : (0 : Int) ≤ (c : Int) := by omega
    have hc1 : (c : Int) ≤ 9223372036854775807 := by unfold maxLen at hg2; omega
    have HR := Lib.hid hrun
    clear hrun
    generalize hob : Obj.cells (Builtin.zeroCells (Value.agg #[.int .i64 0, .int .i64 0, .int .i64 0, .int .i64 0, .int .i64 0]).cells n ++ Builtin.zeroCells (Value.agg #[.int .i64 0, .int .i64 0, .int .i64 0, .int .i64 0, .int .i64 0]).cells (c - n)) 101 = ob at HR
    go_enter Try.func110, Try.ntmps110
    go_wp2_with (first | (at_builtin; refine Lib.wpList_append_run _ rfl _ _ 98 3 rfl (.slice none 0 0) (.int .i64 n) rfl rfl _ _ HR.out ?_))
    go_ret
    refine ⟨_, rfl, ?_, ?_⟩
    · subst hob
      exact World.ownsRow_made w.drew _ c (Nat.le_refl _) hg2 (by simp [Builtin.zeroCells, Value.cells]; omega)
    · exact gr_trans (⟨rfl, rfl, rfl, Nat.le_refl _, fun _ _ _ => rfl⟩ : w.grownBy w.drew none) (World.grownBy_alloc _ _ _)

set_option maxHeartbeats 2000000 in
set_option maxRecDepth 100000 in
theorem concat_any (vb cap : Nat) (v1 v2 : Value) (l1 l2 : List Ed) (B : Nat) (w : World) (h1 : OwnAt w B 101 5 encE v1 l1) (h2 : OwnAt w B 101 5 encE v2 l2) (hl1 : l1.length ≤ 10000) (hl2 : l2.length ≤ 10000)
    (c1 : w.cell? ⟨vb, 0, none⟩ = some v1) (c2 : w.cell? ⟨vb, 1, none⟩ = some v2) :
    Calls Try.prog 79 #[.slice (some ⟨vb, 0, none⟩) 2 cap] w fun e w' => ∃ v', e = .returned v' ∧ OwnAt w' w.heap.size 101 5 encE v' (l1 ++ l2) ∧ Below w.heap.size w w' := by
  obtain ⟨i0, hi, hz0, hz1, hz2⟩ := info_parts info_edge
  obtain ⟨p1, k1, rfl⟩ := h1.shape
  obtain ⟨p2, k2, rfl⟩ := h2.shape
  have H1 := Lib.hid h1
  have H2 := Lib.hid h2
  have O1 := Lib.hid (oneE l1)
  have O2 := Lib.hid (oneE l2)
  clear h1 h2
  have hvb := World.block_lt_of_cell? _ _ c1
  obtain ⟨n1, hn1⟩ : ∃ n1, n1 = l1.length := ⟨_, rfl⟩
  obtain ⟨n2, hn2⟩ : ∃ n2, n2 = l2.length := ⟨_, rfl⟩
  have HG : ∀ w : World, Calls Try.prog 110 #[.slice none 0 0, .int .i64 ((n1 : Int) + (n2 : Int))] w fun e w' => ∃ v', e = .returned v' ∧ w'.ownsRow w.heap.size 101 5 v' 0 [] ∧ w.grownBy w' none := fun w => by
    have h := growE_any (n1 + n2) w (by omega)
    rwa [Int.natCast_add] at h
  have b1 : (n1 : Int) ≤ 10000 := by omega
  have b2 : (n2 : Int) ≤ 10000 := by omega
  rw [← hn1] at c1
  rw [← hn2] at c2
  have N1 := Lib.hid hn1
  have N2 := Lib.hid hn2
  clear hn1 hn2 hl1 hl2
  go_enter Try.func79, Try.ntmps79
  go_wp2
  go_loopw [3, 11] (fun s i wr => w = wr ∧ ((i = .int .i64 0 ∧ s = .int .i64 0) ∨ (i = .int .i64 1 ∧ s = .int .i64 n1) ∨ (i = .int .i64 2 ∧ s = .int .i64 ((n1 : Int) + n2)))) (fun _ i _ => 2 - (intOf i).toNat)
  case atStart => exact ⟨rfl, .inl ⟨rfl, rfl⟩⟩
  case round =>
    obtain ⟨rfl, hr⟩ := hrel
    rcases hr with ⟨rfl, rfl⟩ | ⟨rfl, rfl⟩ | ⟨rfl, rfl⟩
    · go_wp2
      go_roundw
      case rel => exact ⟨trivial, .inr (.inl ⟨rfl, by simp⟩)⟩
      case measure => simp [intOf]
    · go_wp2
      go_roundw
      case rel => exact ⟨trivial, .inr (.inr ⟨rfl, rfl⟩)⟩
      case measure => simp [intOf]
    · go_wp2_with (go_at_call 110; refine (HG _).mono ?_; rintro e w1 ⟨v', rfl, hown, hgr⟩; have HO := Lib.hid hown; have HR := Lib.hid hgr; clear hown hgr)
      go_loopw [6, 27] (fun u i w2 => w.grownBy w2 none ∧ ((i = .int .i64 0 ∧ w2.ownsRow w.heap.size 101 5 u 0 []) ∨ (i = .int .i64 1 ∧ OwnAt w2 w.heap.size 101 5 encE u l1) ∨ (i = .int .i64 2 ∧ OwnAt w2 w.heap.size 101 5 encE u (l1 ++ l2)))) (fun _ i _ => 2 - (intOf i).toNat)
      case atStart => exact ⟨HR.out, .inl ⟨rfl, HO.out⟩⟩
      case round =>
        obtain ⟨hgr2, hr⟩ := hrel
        have HR2 := Lib.hid hgr2
        have hc1 : wr.cell? ⟨vb, 0, none⟩ = some (.slice p1 n1 k1) := hgr2.cell c1 (by simp)
        have hc2 : wr.cell? ⟨vb, 1, none⟩ = some (.slice p2 n2 k2) := hgr2.cell c2 (by simp)
        have hsz := hgr2.size
        have g1 : OwnAt wr B 101 5 encE (.slice p1 l1.length k1) l1 := H1.out.kept hgr2 (Classical.em _)
        have g2 : OwnAt wr B 101 5 encE (.slice p2 l2.length k2) l2 := H2.out.kept hgr2 (Classical.em _)
        have G1 := Lib.hid g1
        have G2 := Lib.hid g2
        unfold OwnAt at g1 g2
        rw [← N1.out] at g1
        rw [← N2.out] at g2
        clear hgr2 c1 c2 H1 H2
        rcases hr with ⟨rfl, hown⟩ | ⟨rfl, hown⟩ | ⟨rfl, hown⟩
        · clear g2
          generalize hxe : l1.flatMap encE = x1 at g1 O1
          go_wp2_with (first | (at_builtin; refine wpList_append_row _ rfl _ _ 98 rfl w.heap.size 101 i0 _ 5 40 Try.underlying98 hi hz0 hz1 hz2 rfl (by decide) _ 0 [] rfl hown B _ n1 x1 rfl g1 O1.out ?c3 ?c4 ?c5 ?_))
          case c3 => unfold maxLen; omega
          case c4 => omega
          case c5 => omega
          intro v2 w2 hown2 hgr3
          subst hxe
          have HR3 := Lib.hid (gr_step HR2.out hgr3 hown)
          have HO3 := Lib.hid (show OwnAt w2 w.heap.size 101 5 encE v2 l1 by unfold OwnAt; rw [← N1.out]; exact hown2)
          clear hown hown2 hgr3 g1
          go_wp2
          go_roundw
          case rel => exact ⟨HR3.out, .inr (.inl ⟨rfl, HO3.out⟩)⟩
          case measure => simp [intOf]
        · clear g1
          generalize hxe : l2.flatMap encE = x2 at g2 O2
          have hown0 := hown
          unfold OwnAt at hown
          rw [← N1.out] at hown
          generalize hx1 : l1.flatMap encE = x1 at hown
          go_wp2_with (first | (at_builtin; refine wpList_append_row _ rfl _ _ 98 rfl w.heap.size 101 i0 _ 5 40 Try.underlying98 hi hz0 hz1 hz2 rfl (by decide) _ n1 x1 rfl hown B _ n2 x2 rfl g2 O2.out ?c3 ?c4 ?c5 ?_))
          case c3 => unfold maxLen; omega
          case c4 => omega
          case c5 => omega
          intro v2 w2 hown2 hgr3
          subst hxe
          subst hx1
          have HR3 := Lib.hid (gr_step HR2.out hgr3 hown)
          have HO3 := Lib.hid (OwnAt.snoc (l := l1) (m := l2) (enc := encE) N2.out (by rw [← N1.out]; exact hown2))
          clear hown hown2 hgr3 g2 hown0
          go_wp2
          go_roundw
          case rel => exact ⟨HR3.out, .inr (.inr ⟨rfl, HO3.out⟩)⟩
          case measure => simp [intOf]
        · have HO3 := Lib.hid hown
          clear hown g1 g2
          go_wp2
          go_ret
          exact ⟨_, rfl, HO3.out, below_of_gr HR2.out⟩
end Go.Proofs.Ytclogmnokjcegaa
