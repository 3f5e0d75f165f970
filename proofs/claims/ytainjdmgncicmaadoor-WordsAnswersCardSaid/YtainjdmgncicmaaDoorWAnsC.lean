/- WordsAnswers: what comes in: the lines; the library's variables. -/
import Derived.Test.YtainjdmgncicmaaDoorWAnsB
import Derived.Test.YtainjdmgncicmaaDoorWE
import Derived.Deep.Slices
import Derived.SliceStrings
import Derived.ChangeMaps5
namespace Go.Proofs.YtainjdmgncicmaaDoor
open Go.ChangeShapes Go.WideShapes Go.ChangeAt Go.RowKit Go.Deep

section
variable {H : Type} {enc : TypeId × Value → H} {P : Program}

theorem open_words {W : World} {e se : TypeId} {n : Nat} {u : Value} {x : DataW H × List MemPlace} (he : P.underlying e = some (.slice se)) (hse : P.underlying se = some .string) (hcs : P.cellsOf se = 1) (h : DataW.trod enc P W 0 (fun _ => true) true n e [u] = some x) :
    ∃ ws, WordsAt W u ws ∧ ws.length ≤ 9223372036854775807 ∧ ∀ x ∈ ws, x.size ≤ 9223372036854775807 := by
  have hmax : maxLen = 9223372036854775807 := by decide
  rcases open_strings he hse hcs h with ⟨hc, _⟩ | ⟨a, len, cap, ss, hc, _, hl, hm, hn, _, hcell, hw⟩
  · obtain rfl : u = .slice none 0 0 := by simpa using hc
    exact ⟨[], ⟨none, 0, rfl, Nat.le_refl _, fun h0 => by simp at h0⟩, Nat.zero_le _, fun x hx => by simp at hx⟩
  · obtain rfl : u = .slice (some a) len cap := by simpa using hc
    simp only [if_true] at hn
    have hlen : (ss.take len).length = len := by rw [List.length_take]; omega
    refine ⟨ss.take len, ⟨some a, cap, by rw [hlen], by rw [hlen]; exact hl, fun h0 => ?_⟩, by rw [hlen]; omega, fun x hx => by have := hw x (List.mem_of_mem_take hx); omega⟩
    rw [hlen] at h0
    obtain ⟨b, off, spot⟩ := a
    have hspot : spot = none := by simpa [Addr.add] using World.cell?_spot (hcell 0 (by omega))
    subst hspot
    have hb : b < W.heap.size := by
      have h1 := hcell 0 (by omega)
      rw [add_plain] at h1
      obtain ⟨c, e', fr, hh, _⟩ := Sort.cells_of_cell? h1
      exact (Array.getElem?_eq_some_iff.1 hh).1
    refine ⟨b, off, rfl, hb, fun j y hj => ?_⟩
    have hj1 : j < len := by have := (List.getElem?_eq_some_iff.1 hj).1; omega
    have h1 := hcell j (by omega)
    rw [add_plain] at h1
    rw [h1]
    rw [List.getElem?_take, if_pos hj1] at hj
    rw [List.getD_eq_getElem?_getD, hj]
    rfl

theorem open_lines {W : World} {t e se : TypeId} {base : Nat} {v : Value} {d : DataW H} {ps : List MemPlace} (ht : P.underlying t = some (.slice e)) (he : P.underlying e = some (.slice se)) (hc : P.cellsOf e = 1) (hse : P.underlying se = some .string) (hcs : P.cellsOf se = 1)
    (hok : Value.okWide P W .any base t v) (h : DataW.Trod enc P W 0 (fun _ => true) true t v d ps) :
    ∃ ls, LinesAt W v ls ∧ ls.length ≤ 9223372036854775807 ∧ ∀ l ∈ ls, l.length ≤ 9223372036854775807 ∧ ∀ x ∈ l, x.size ≤ 9223372036854775807 := by
  have hmax : maxLen = 9223372036854775807 := by decide
  obtain ⟨a0, len0, cap0, rfl⟩ := okWide_slice ht hok
  obtain ⟨fuel, hf⟩ := h
  rcases open_slice1 ht hc hf with ⟨hz, _⟩ | ⟨a, len, cap, m, n, V, D, Pl, hz, _, hl, hm, hmm, _, hx⟩
  · simp [Value.cells] at hz
    obtain ⟨rfl, rfl, rfl⟩ := hz
    exact ⟨[], ⟨none, 0, rfl, fun h0 => by simp at h0⟩, Nat.zero_le _, fun l hl => by simp at hl⟩
  · simp [Value.cells] at hz
    obtain ⟨rfl, rfl, rfl⟩ := hz
    simp only [if_true] at hmm
    obtain ⟨F, hF⟩ := choose_lt (α := List ByteArray) (n := len0) (p := fun i ws => WordsAt W (V i) ws ∧ ws.length ≤ 9223372036854775807 ∧ ∀ x ∈ ws, x.size ≤ 9223372036854775807) (fun i hi => open_words he hse hcs (hx i (by omega)).2)
    have hlen : ((List.range len0).map F).length = len0 := by simp
    refine ⟨(List.range len0).map F, ⟨some a, cap0, by rw [hlen], fun h0 => ?_⟩, by rw [hlen]; omega, fun l hl' => ?_⟩
    · rw [hlen] at h0
      obtain ⟨b, off, spot⟩ := a
      have hspot : spot = none := by simpa [Addr.add] using World.cell?_spot (hx 0 (by omega)).1
      subst hspot
      have hb : b < W.heap.size := by
        have h1 := (hx 0 (by omega)).1
        rw [add_plain] at h1
        obtain ⟨c, e', fr, hh, _⟩ := Sort.cells_of_cell? h1
        exact (Array.getElem?_eq_some_iff.1 hh).1
      refine ⟨b, off, rfl, hb, fun j l hj => ?_⟩
      have hj1 : j < len0 := by have := (List.getElem?_eq_some_iff.1 hj).1; omega
      have h1 := (hx j (by omega)).1
      rw [add_plain] at h1
      obtain rfl : F j = l := by simpa [hj1] using hj
      exact ⟨V j, h1, (hF j hj1).1⟩
    · obtain ⟨i, hi, rfl⟩ := List.mem_map.1 hl'
      exact (hF i (List.mem_range.1 hi)).2
end

theorem laid_of9 {W : World} {x1 x2 x3 x4 : String × DataW Unit} {r : List (String × DataW Unit)}
    (h : laidMet Tryd.prog (x1 :: x2 :: ("internal/strconv.uint64pow10", Rows.laid_internal_strconv_uint64pow10) :: x4 :: ("strconv.ErrRange", Rows.laid_strconv_ErrRange) :: ("strconv.ErrSyntax", Rows.laid_strconv_ErrSyntax) :: x3 :: ("strings.asciiSpace", Rows.laid_strings_asciiSpace) :: r) W) : Laid W := by
  have h2 := h.tail.tail
  have h3 := h2.tail.tail
  have h4 := h3.tail
  have h6 := h4.tail.tail
  rw [pow_data] at h2
  rw [sp_data] at h6
  obtain ⟨a1, s1, hv1, _⟩ := laid_sentinel h3 g_er gt_er Tryd.underlying64 row_err Tryd.underlying139 Tryd.underlying141 rfl rfl Tryd.underlying9 (by kernel_rfl) (by kernel_rfl)
  obtain ⟨a2, s2, hv2, _⟩ := laid_sentinel h4 g_es gt_es Tryd.underlying64 row_err Tryd.underlying139 Tryd.underlying141 rfl rfl Tryd.underlying9 (by kernel_rfl) (by kernel_rfl)
  exact ⟨Lib.tabIs_of_head g_sp gt_sp Tryd.underlying80 Tryd.underlying5 (by kernel_rfl) (by kernel_rfl) h6,
    Lib.tabIs_of_head g_pow gt_pow Tryd.underlying132 Tryd.underlying89 (by kernel_rfl) (by kernel_rfl) h2, ⟨_, _, hv2⟩, ⟨_, _, hv1⟩⟩
end Go.Proofs.YtainjdmgncicmaaDoor
