/- RegionAnswers: what comes in: a region as an argument. -/
import Derived.Test.YtdpnkbbphfcngaaGZ
import Derived.Deep.Slices
import Derived.Lib.SmallJoins
import Derived.ChangeMaps5
namespace Go.Proofs.Ytdpnkbbphfcngaa
open Go.ChangeShapes Go.WideShapes Go.ChangeAt Go.RowKit Go.Deep Go.Joins

section
variable {H : Type} {enc : TypeId × Value → H} {P : Program}

theorem open_rects {W : World} {t e : TypeId} {f0 f1 f2 f3 : Field} {u : Value} {fuel : Nat} {x : DataW H × List MemPlace} (ht : P.underlying t = some (.slice e)) (he : P.underlying e = some (.struct #[f0, f1, f2, f3])) (hC : P.cellsOf e = 4) (hone : oneCellFields P #[f0, f1, f2, f3] = true)
    (i0 : P.underlying f0.type = some (.int .i64)) (i1 : P.underlying f1.type = some (.int .i64)) (i2 : P.underlying f2.type = some (.int .i64)) (i3 : P.underlying f3.type = some (.int .i64))
    (h : DataW.trod enc P W 0 (fun _ => true) true fuel t [u] = some x) : ∃ l, RectsAt W u l := by
  rcases open_slice ht h with ⟨hc, _⟩ | ⟨a, len, cap, m, n, D, Pl, hc, _, hl, hm, hmm, _, hx⟩
  · obtain rfl : u = .slice none 0 0 := by simpa using hc
    exact ⟨[], RectsAt.nil W⟩
  · obtain rfl : u = .slice (some a) len cap := by simpa using hc
    simp only [if_true] at hmm
    have each : ∀ i, i < len → ∃ r : Rc, W.cell? (a.add (i * 4)) = some (.int .i64 r.l) ∧ W.cell? (a.add (i * 4 + 1)) = some (.int .i64 r.b) ∧ W.cell? (a.add (i * 4 + 2)) = some (.int .i64 r.r) ∧ W.cell? (a.add (i * 4 + 3)) = some (.int .i64 r.h) := fun i hi => by
      obtain ⟨cs', h1, h2⟩ := hx i (by omega)
      rw [hC] at h1
      obtain ⟨_, hlen, hcell⟩ := World.cells?_some h1
      obtain ⟨y0, y1, y2, y3, k, _, _, g0, g1, g2, g3⟩ := trod_struct4 he h2
      obtain ⟨o0, k0⟩ := hone_of hone 0 f0 rfl
      obtain ⟨o1, k1⟩ := hone_of hone 1 f1 rfl
      obtain ⟨o2, k2⟩ := hone_of hone 2 f2 rfl
      obtain ⟨o3, k3⟩ := hone_of hone 3 f3 rfl
      match cs', hlen with
      | [v0, v1, v2, v3], _ =>
        simp [o0, k0] at g0
        simp [o1, k1] at g1
        simp [o2, k2] at g2
        simp [o3, k3] at g3
        obtain ⟨z0, e0, _⟩ := DataW.trod_int i0 g0
        obtain ⟨z1, e1, _⟩ := DataW.trod_int i1 g1
        obtain ⟨z2, e2, _⟩ := DataW.trod_int i2 g2
        obtain ⟨z3, e3, _⟩ := DataW.trod_int i3 g3
        simp at e0 e1 e2 e3
        subst e0 e1 e2 e3
        have c0 := hcell 0 (by omega)
        have c1 := hcell 1 (by omega)
        have c2 := hcell 2 (by omega)
        have c3 := hcell 3 (by omega)
        rw [add_add] at c0 c1 c2 c3
        exact ⟨⟨z0, z1, z2, z3⟩, by simpa using c0, by simpa using c1, by simpa using c2, by simpa using c3⟩
    obtain ⟨R, hR⟩ := choose_lt (α := Rc) each
    have hlenR : ((List.range len).map R).length = len := by simp
    refine ⟨(List.range len).map R, some a, cap, by rw [hlenR], by rw [hlenR]; exact Nat.le_trans hl hm, by rw [hlenR]; exact hl, fun j hj => ?_⟩
    rw [hlenR] at hj
    obtain ⟨b, off, spot⟩ := a
    have hspot : spot = none := by simpa [Addr.add] using World.cell?_spot (hR 0 (by omega)).1
    subst hspot
    have hb : b < W.heap.size := by
      have h1 := (hR 0 (by omega)).1
      rw [add_plain] at h1
      obtain ⟨c, e', fr, hh, _⟩ := Sort.cells_of_cell? h1
      exact (Array.getElem?_eq_some_iff.1 hh).1
    have hj2 : ((List.range len).map R)[j]! = R j := by
      rw [getElem!_pos _ j (by rw [hlenR]; exact hj)]
      simp
    refine ⟨b, off, rfl, hb, ?_⟩
    rw [hj2]
    obtain ⟨c0, c1, c2, c3⟩ := hR j hj
    rw [add_plain] at c0 c1 c2 c3
    exact ⟨c0, c1, c2, c3⟩

theorem open_region {W : World} {t s e : TypeId} {f f0 f1 f2 f3 : Field} {base : Nat} {v : Value} {d : DataW H} {ps : List MemPlace} (hs : P.underlying t = some (.struct #[f])) (hCt : P.cellsOf t = 1) (hf : f.offset = 0) (hft : f.type = s) (hCs : P.cellsOf s = 1)
    (ht : P.underlying s = some (.slice e)) (he : P.underlying e = some (.struct #[f0, f1, f2, f3])) (hC : P.cellsOf e = 4) (hone : oneCellFields P #[f0, f1, f2, f3] = true)
    (i0 : P.underlying f0.type = some (.int .i64)) (i1 : P.underlying f1.type = some (.int .i64)) (i2 : P.underlying f2.type = some (.int .i64)) (i3 : P.underlying f3.type = some (.int .i64))
    (hok : Value.okWide P W .any base t v) (h : DataW.Trod enc P W 0 (fun _ => true) true t v d ps) : ∃ u l, v = .agg #[u] ∧ RectsAt W u l := by
  obtain ⟨cs, rfl, hsz⟩ := okWide_struct hs hok
  obtain ⟨u, rfl⟩ : ∃ u, cs = #[u] := by
    rw [hCt] at hsz
    obtain ⟨l⟩ := cs
    match l, hsz with
    | [u], _ => exact ⟨u, rfl⟩
  obtain ⟨fuel, hfu⟩ := h
  obtain ⟨xs, k, _, _, _, hlen, hff⟩ := DataW.trod_struct hs hfu
  match xs, hlen with
  | [y], _ =>
    have g := hff 0 f rfl
    subst hft
    simp [Value.cells, hf, hCs] at g
    obtain ⟨l, hl⟩ := open_rects ht he hC hone i0 i1 i2 i3 g
    exact ⟨u, l, rfl, hl⟩
end
end Go.Proofs.Ytdpnkbbphfcngaa
