/- Rows of edges: slices.IndexFunc, slices.DeleteFunc by their highest rows. -/
import Derived.Test.YtkpmgdhaollheaaIP
import Derived.Shelf.Abstract
import Derived.Lib.SliceRun
namespace Go.Proofs.Ytkpmgdhaollheaa
open Go.RowKit

theorem flat_setE (q : Ed) : ∀ (L : List Ed) (i : Nat), i < L.length → (((((L.flatMap encE).set (i * 5) (.int .i64 q.x)).set (i * 5 + 1) (.int .i64 q.lo)).set (i * 5 + 2) (.int .i64 q.hi)).set (i * 5 + 3) (.int .i64 q.list)).set (i * 5 + 4) (.int .i64 q.more) = (L.set i q).flatMap encE
  | p :: L, 0, _ => rfl
  | p :: L, i + 1, h => by
    have ih := flat_setE q L i (by simpa using h)
    have e : (i + 1) * 5 = i * 5 + 5 := by omega
    rw [e, List.flatMap_cons, List.set_cons_succ, List.flatMap_cons, ← ih]
    rfl
/-- The world behind 's[i] = q'. -/
def putE (w : World) (g i : Nat) (q : Ed) : World := ((((w.setCell ⟨g, i * 5, none⟩ (.int .i64 q.x)).setCell ⟨g, i * 5 + 1, none⟩ (.int .i64 q.lo)).setCell ⟨g, i * 5 + 2, none⟩ (.int .i64 q.hi)).setCell ⟨g, i * 5 + 3, none⟩ (.int .i64 q.list)).setCell ⟨g, i * 5 + 4, none⟩ (.int .i64 q.more)
theorem own_putE {w : World} {B g n cap : Nat} {L : List Ed} (h : OwnAt w B 124 5 encE (.slice (some ⟨g, 0, none⟩) n cap) L) (hl : L.length = n) {i : Nat} (hi : i < n) (q : Ed) :
    OwnAt (putE w g i q) B 124 5 encE (.slice (some ⟨g, 0, none⟩) n cap) (L.set i q) ∧ w.grownBy (putE w g i q) (some g) := by
  subst hl
  unfold OwnAt at h ⊢
  rw [← flat_setE q L i hi]
  simp only [List.length_set]
  obtain ⟨a1, b1⟩ := h.stored (i * 5) (.int .i64 q.x)
  obtain ⟨a2, b2⟩ := a1.stored (i * 5 + 1) (.int .i64 q.lo)
  obtain ⟨a3, b3⟩ := a2.stored (i * 5 + 2) (.int .i64 q.hi)
  obtain ⟨a4, b4⟩ := a3.stored (i * 5 + 3) (.int .i64 q.list)
  obtain ⟨a5, b5⟩ := a4.stored (i * 5 + 4) (.int .i64 q.more)
  exact ⟨a5, gr_trans (gr_trans (gr_trans (gr_trans b1 b2) b3) b4) b5⟩

theorem own_setCells {B e k n cap g : Nat} : ∀ (vs : List Value) (o : Nat) (w : World) (xs : List Value), w.ownsRow B e k (.slice (some ⟨g, 0, none⟩) n cap) n xs →
    ∃ ys, (w.setCells g o vs).ownsRow B e k (.slice (some ⟨g, 0, none⟩) n cap) n ys ∧ ys.take o = xs.take o ∧ w.grownBy (w.setCells g o vs) (some g)
  | [], o, w, xs, h => ⟨xs, h, rfl, World.grownBy.refl _ _⟩
  | v :: vs, o, w, xs, h => by
    obtain ⟨h1, h2⟩ := h.stored o v
    obtain ⟨ys, a, b, c⟩ := own_setCells vs (o + 1) _ _ h1
    refine ⟨ys, a, ?_, gr_trans h2 c⟩
    have := congrArg (List.take o) b
    rw [List.take_take, List.take_take, Nat.min_eq_left (by omega)] at this
    rw [this, List.take_set_of_le (Nat.le_refl _)]

/-- The first elements of a row, whatever stands behind them. -/
theorem own_cut {α : Type} {w : World} {B : Nat} {e : TypeId} {k g n cap m : Nat} {enc : α → List Value} {ys : List Value} {l : List α} (h : w.ownsRow B e k (.slice (some ⟨g, 0, none⟩) n cap) n ys) (hm : m ≤ n) (hl : l.length = m) (hk : ∀ x, (enc x).length = k) (ht : ys.take (m * k) = l.flatMap enc) : OwnAt w B e k enc (.slice (some ⟨g, 0, none⟩) m cap) l := by
  unfold OwnAt
  refine ⟨by rw [flatMap_len enc k hk], ?_⟩
  rcases h.2 with ⟨e1, h0⟩ | ⟨g', cap', cur, e1, hb, hg, hc, hcm, hs, ht2⟩
  · cases e1
  · simp only [Value.slice.injEq, Option.some.injEq, Addr.mk.injEq, and_true, true_and] at e1
    obtain ⟨rfl, rfl⟩ := e1
    refine .inr ⟨g, cap, cur, by rw [hl], hb, hg, by omega, hcm, hs, ?_⟩
    have hmk : m * k ≤ n * k := Nat.mul_le_mul_right k hm
    rw [hl, ← ht, ← ht2, List.take_take, Nat.min_eq_left hmk]

theorem run_clear_row {P : Program} (w : World) (t e ty : TypeId) (z : Value) (k : Nat) (ht : P.underlying t = some (.slice e)) (hv : ∀ w, (zeroValue e).run P w = .ok z w) (hz : z.cells.size = k) (hk : 0 < k) (h1 : ∀ i, i < k → (z.cells[i]!).oneCell' = true) (b o n c : Nat) (hn : 0 < n)
    (hc : ∀ j, j < n * k → (w.cell? ⟨b, o + j, none⟩).isSome = true) (hf : ∀ j, j < n * k → w.frozen? ⟨b, o + j, none⟩ = false) :
    (Builtin.clear_ #[t] ty #[.slice (some ⟨b, o, none⟩) n c]).run P w = .ok (.tuple #[]) (w.setCells b o (Builtin.zeroCells z.cells n).toList) := by
  have hlen : (Builtin.zeroCells z.cells n).toList.length = n * k := by simp [Builtin.zeroCells, hz]
  have hone : ∀ v ∈ (Builtin.zeroCells z.cells n).toList, v.oneCell' = true := by
    intro v hv'
    simp only [Builtin.zeroCells, Array.toList_map, List.mem_map, hz] at hv'
    obtain ⟨i, _, rfl⟩ := hv'
    exact h1 _ (Nat.mod_lt _ hk)
  have hst := run_storeCells_cells (P := P) b o (Builtin.zeroCells z.cells n).toList 0 w (by rw [hlen]; simpa using hc) (by rw [hlen]; simpa using hf) hone
  simp only [Nat.add_zero] at hst
  obtain ⟨m, rfl⟩ : ∃ m, n = m + 1 := ⟨n - 1, by omega⟩
  simp [Builtin.clear_, run_underlying ht, hv, hst]

/-- The predicate of rise. -/
theorem goneE_any (bx : Nat) (y : Int) (x : Ed) (w : World) (h : BoxAt w bx #[.int .i64 y] 3) :
    Calls Try.prog 104 #[.agg #[.int .i64 x.x, .int .i64 x.lo, .int .i64 x.hi, .int .i64 x.list, .int .i64 x.more], .pointer (some ⟨bx, 0, none⟩)] w fun e w' => e = .returned (.bool (!above y x)) ∧ Below w.heap.size w w' := by
  have c0 := h.cell (i := 0) rfl
  have hlt := h.lt
  have hne : bx ≠ w.heap.size := by omega
  by_cases hy : x.hi ≤ y
  · have HR := Lib.hid (show (!above y x) = true by have : ¬ y < x.hi := by omega
                                                    simp [above, this])
    go_enter Try.func104, Try.ntmps104
    go_wp2
    go_ret
    exact ⟨ret_bool HR.out.symm, (Below.refl _ _).alloc (Nat.le_refl _) _⟩
  · have HR := Lib.hid (show (!above y x) = false by have : y < x.hi := by omega
                                                     simp [above, this])
    go_enter Try.func104, Try.ntmps104
    go_wp2
    go_ret
    exact ⟨ret_bool HR.out.symm, (Below.refl _ _).alloc (Nat.le_refl _) _⟩

/-- What IndexFunc answers: the first element that is gone. -/
def IdxE (y : Int) (l : List Ed) (z : Int) : Prop := (z = -1 ∧ ∀ j, j < l.length → above y l[j]! = true) ∨ ∃ k : Nat, z = k ∧ k < l.length ∧ above y l[k]! = false ∧ ∀ j, j < k → above y l[j]! = true

set_option maxHeartbeats 2000000 in
set_option maxRecDepth 100000 in
theorem indexE_any (bx : Nat) (y : Int) (v : Value) (l : List Ed) (B : Nat) (w : World) (h : OwnAt w B 124 5 encE v l) (hx : BoxAt w bx #[.int .i64 y] 3) (hl : l.length ≤ 240000) :
    Calls Try.prog 110 #[v, .func (.func 104) #[] #[.pointer (some ⟨bx, 0, none⟩)]] w fun e w' => ∃ z, e = .returned (.int .i64 z) ∧ IdxE y l z ∧ Below w.heap.size w w' := by
  have hs := h.shape
  obtain ⟨p, cap, rfl⟩ := hs
  have henter : ∀ args w, (callFunc 104 args).run Try.prog w = .ok (.enter 104 args) w := enters_of Try.func104 (by kernel_rfl) rfl
  have HE := Lib.hid h
  have HX := Lib.hid hx
  obtain ⟨n, hn⟩ : ∃ n, n = l.length := ⟨_, rfl⟩
  rw [← hn]
  have N := Lib.hid hn
  have hn' : (n : Int) ≤ 240000 := by omega
  clear h hn hx
  go_enter Try.func110, Try.ntmps110
  go_wp2_with fail
  go_loopw [8] (fun i wr => ∃ k : Nat, k ≤ n ∧ i = .int .i64 k ∧ (∀ j, j < k → above y l[j]! = true) ∧ Below w.heap.size w wr) (fun i _ => n - (intOf i).toNat)
  case atStart => exact ⟨0, Nat.zero_le _, rfl, fun j hj => absurd hj (Nat.not_lt_zero _), Below.refl _ _⟩
  case round =>
    obtain ⟨k, hk, rfl, hall, hb⟩ := hrel
    by_cases hkn : k < n
    · have hkE : k < l.length := by rw [← N.out]; exact hkn
      have hE := HE.out.kept hb
      obtain ⟨g1, cap', e1, _, hg, _⟩ := hE.form (by omega)
      cases e1
      have d0 := hE.cell encE_len rfl hkE (i := 0) rfl
      have d1 := hE.cell encE_len rfl hkE (i := 1) rfl
      have d2 := hE.cell encE_len rfl hkE (i := 2) rfl
      have d3 := hE.cell encE_len rfl hkE (i := 3) rfl
      have d4 := hE.cell encE_len rfl hkE (i := 4) rfl
      simp only [Nat.add_zero] at d0
      have hkn' : (k : Int) < (n : Int) := by omega
      have HB := Lib.hid hb
      have HA := Lib.hid hall
      have HO := Lib.hid (goneE_any bx y l[k]! wr (HX.out.below hb))
      have hq : ∀ q, l[k]! = q → q = l[k]! := fun _ h => h.symm
      clear hE hb hall
      generalize hr : l[k]! = r at *
      have HRr := Lib.hid (hq _ rfl)
      clear hq
      cases ho : above y r
      · have HV := Lib.hid ho
        rw [ho] at HO
        go_wp2_with (go_at_fn 104; refine Calls.mono HO.out ?_; rintro e w2 ⟨rfl, hb2⟩; have B2 := Lib.hid (below_step HB.out hb2); clear hb2)
        go_ret
        exact ⟨_, rfl, .inr ⟨k, rfl, hkE, by rw [hr]; exact HV.out, HA.out⟩, B2.out⟩
      · have HV := Lib.hid ho
        rw [ho] at HO
        go_wp2_with (go_at_fn 104; refine Calls.mono HO.out ?_; rintro e w2 ⟨rfl, hb2⟩; have B2 := Lib.hid (below_step HB.out hb2); clear hb2)
        go_roundw
        case rel =>
          refine ⟨k + 1, by omega, by simp, fun j hj => ?_, B2.out⟩
          rcases Nat.lt_or_ge j k with h | h
          · exact HA.out j h
          · obtain rfl : j = k := by omega
            rw [hr]; exact HV.out
        case measure => simp [intOf]; omega
    · obtain rfl : k = n := by omega
      have HA := Lib.hid hall
      have HB := Lib.hid hb
      clear hall hb
      go_wp2
      go_ret
      exact ⟨_, rfl, .inl ⟨rfl, fun j hj => HA.out j (by rw [N.out]; exact hj)⟩, HB.out⟩

theorem filter_take {y : Int} {l : List Ed} {k : Nat} (h : k < l.length) : (l.take (k + 1)).filter (above y) = if above y l[k]! = true then (l.take k).filter (above y) ++ [l[k]!] else (l.take k).filter (above y) := by
  rw [List.take_succ_eq_append_getElem h, List.filter_append, getElem!_pos l k h]
  by_cases e : above y l[k] = true <;> simp [e]
theorem filter_all {y : Int} : ∀ {l : List Ed}, (∀ j, j < l.length → above y l[j]! = true) → l.filter (above y) = l := by
  intro l h
  rw [List.filter_eq_self]
  intro e he
  obtain ⟨j, hj, rfl⟩ := List.mem_iff_getElem.1 he
  have := h j hj
  rwa [getElem!_pos l j hj] at this
theorem take_set_at {l : List Ed} {i : Nat} (hi : i < l.length) (q : Ed) : (l.set i q).take (i + 1) = l.take i ++ [q] := by
  rw [List.take_succ_eq_append_getElem (by simpa using hi), List.take_set_of_le (Nat.le_refl _)]
  simp

end Go.Proofs.Ytkpmgdhaollheaa
