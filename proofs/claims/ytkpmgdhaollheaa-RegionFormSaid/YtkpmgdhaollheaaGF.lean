/- cutsOf: the rows where edges begin or end, ascending, each once. -/
import Derived.Test.YtkpmgdhaollheaaGD
namespace Go.Proofs.Ytkpmgdhaollheaa
open Go.RowKit Go.Sort

theorem compact_up (d : Array Int) (hs : ∀ i j, i ≤ j → j < d.size → d[i]! ≤ d[j]!) : ∀ m, m ≤ d.size → (Lib.compactUpTo d m).Pairwise (· < ·) ∧ (∀ c ∈ Lib.compactUpTo d m, ∃ j, j < m ∧ c = d[j]!) ∧ ∀ j, j < m → d[j]! ∈ Lib.compactUpTo d m
  | 0, _ => ⟨List.Pairwise.nil, by intro c hc; simp [Lib.compactUpTo] at hc, fun j h => by omega⟩
  | m + 1, hm => by
    obtain ⟨h1, h2, h3⟩ := compact_up d hs m (by omega)
    rw [Lib.compactUpTo_succ]
    by_cases hk : Lib.keeps d m = true
    · rw [if_pos hk]
      have hk' : m = 0 ∨ d[m]! ≠ d[m - 1]! := by simpa [Lib.keeps] using hk
      refine ⟨?_, ?_, ?_⟩
      · rw [List.pairwise_append]
        refine ⟨h1, List.pairwise_singleton _ _, fun a ha b hb => ?_⟩
        simp at hb
        subst hb
        obtain ⟨j, hj, rfl⟩ := h2 a ha
        have e1 := hs j (m - 1) (by omega) (by omega)
        have e2 := hs (m - 1) m (by omega) (by omega)
        rcases hk' with hk' | hk'
        · omega
        · omega
      · intro c hc
        rcases List.mem_append.1 hc with hc | hc
        · obtain ⟨j, hj, e⟩ := h2 c hc
          exact ⟨j, by omega, e⟩
        · simp at hc
          exact ⟨m, by omega, hc⟩
      · intro j hj
        rcases Nat.lt_or_ge j m with h | h
        · exact List.mem_append_left _ (h3 j h)
        · obtain rfl : j = m := by omega
          exact List.mem_append_right _ (by simp)
    · rw [if_neg hk, List.append_nil]
      have hk' : ¬ (m = 0 ∨ d[m]! ≠ d[m - 1]!) := by simpa [Lib.keeps] using hk
      have hm0 : m ≠ 0 := fun e => hk' (.inl e)
      have he : d[m]! = d[m - 1]! := by
        by_cases e : d[m]! = d[m - 1]!
        · exact e
        · exact absurd (.inr e) hk'
      refine ⟨h1, fun c hc => ?_, fun j hj => ?_⟩
      · obtain ⟨j, hj, e⟩ := h2 c hc
        exact ⟨j, by omega, e⟩
      · rcases Nat.lt_or_ge j m with h | h
        · exact h3 j h
        · obtain rfl : j = m := by omega
          rw [he]
          exact h3 _ (by omega)

def cutsL (E : List Ed) : List Int := Lib.compact ((E.flatMap fun e => [e.lo, e.hi]).mergeSort fun x y => decide (x ≤ y))

theorem cutsL_ok (E : List Ed) : (cutsL E).Pairwise (· < ·) ∧ (∀ c, c ∈ cutsL E ↔ ∃ e ∈ E, c = e.lo ∨ c = e.hi) ∧ (cutsL E).length ≤ 2 * E.length := by
  have hlen : (E.flatMap fun e => [e.lo, e.hi]).length = 2 * E.length := by
    induction E with
    | nil => rfl
    | cons e E ih => rw [List.flatMap_cons, List.length_append, ih]; simp; omega
  have hmem : ∀ c, c ∈ (E.flatMap fun e => [e.lo, e.hi]) ↔ ∃ e ∈ E, c = e.lo ∨ c = e.hi := by
    intro c
    rw [List.mem_flatMap]
    simp
  unfold cutsL
  generalize E.flatMap (fun e => [e.lo, e.hi]) = l at *
  have hp := List.mergeSort_perm l (fun x y : Int => decide (x ≤ y))
  have hs := List.pairwise_mergeSort (le := fun x y : Int => decide (x ≤ y)) (fun a b c h1 h2 => by simp at *; omega) (fun a b => by simp; omega) l
  generalize l.mergeSort (fun x y : Int => decide (x ≤ y)) = z at *
  have hz : ∀ i j, i ≤ j → j < z.toArray.size → z.toArray[i]! ≤ z.toArray[j]! := by
    intro i j hij hj
    have hj' : j < z.length := by simpa using hj
    rcases Nat.lt_or_ge i j with h | h
    · have := List.pairwise_iff_getElem.1 hs i j (by omega) hj' h
      simpa [getElem!_pos, hj', show i < z.length by omega] using this
    · obtain rfl : i = j := by omega
      exact Int.le_refl _
  obtain ⟨h1, h2, h3⟩ := compact_up z.toArray hz z.length (by simp)
  refine ⟨h1, fun c => ?_, ?_⟩
  · rw [← hmem, ← hp.mem_iff]
    constructor
    · intro hc
      obtain ⟨j, hj, rfl⟩ := h2 c hc
      simp [getElem!_pos, hj]
    · intro hc
      obtain ⟨j, hj, rfl⟩ := List.mem_iff_getElem.1 hc
      have := h3 j hj
      simpa [getElem!_pos, hj, Lib.compact] using this
  · have := Lib.compact_length_le z
    have := hp.length_eq
    omega

theorem info_int : (Try.prog.info? 3).map (fun i => (i.zero, i.size, i.bytes)) = some (some (.int .i64 0), 1, 8) := by kernel_rfl

theorem grown_putRow' {enc : Int → Value} (w : World) (g q : Nat) (d : Array Int) : w.grownBy (putRow enc (Sort.ahead w q) g 0 d) (some g) := by
  refine ⟨rfl, rfl, rfl, by simp [putRow, mapBlock, Sort.ahead], fun k hk hne => ?_⟩
  have hkg : k ≠ g := fun e => hne (by rw [e])
  simp [putRow, mapBlock, Sort.ahead, Array.getElem?_modify, hkg.symm]
theorem gr_grow (w : World) (os : Array Obj) (row : Option Nat) : w.grownBy (grow w os) row := ⟨rfl, rfl, rfl, by simp [grow], fun _ hk _ => heap_grow_old _ _ hk⟩

theorem own_map {w : World} {B : Nat} {v : Value} {l : List Int} : OwnAt w B 3 1 encI v l ↔ w.ownsRow B 3 1 v l.length (l.map (Value.int .i64)) := by
  unfold OwnAt
  rw [flat_encI]

theorem sortI_any (v : Value) (l : List Int) (B : Nat) (w : World) (h : OwnAt w B 3 1 encI v l) (hl : l.length ≤ 500000) :
    Calls Try.prog 100 #[v] w fun e w' => e = .returned (.tuple #[]) ∧ OwnAt w' B 3 1 encI v (l.mergeSort fun x y => decide (x ≤ y)) ∧ w.grownBy w' v.ownBlock := by
  by_cases h0 : l = []
  · subst h0
    obtain ⟨p, cap, rfl⟩ := h.shape
    refine (Try.slices_Sort_int_none p cap w).mono ?_
    rintro e w' ⟨rfl, rfl⟩
    exact ⟨rfl, by rw [List.mergeSort_nil]; exact h, World.grownBy.refl _ _⟩
  · obtain ⟨g, cap, rfl, hBg, hg, hlc⟩ := h.form (List.length_pos_iff.2 h0)
    rw [own_map] at h
    obtain ⟨g', cap', e1, _, _, _, _, _, hH⟩ := Lib.holds_of_ownsRow h (by simp)
    cases e1
    refine (Try.slices_Sort_int g 0 cap l w hH hg (by omega)).mono ?_
    rintro e w' ⟨rfl, n, os, rfl⟩
    refine ⟨rfl, ?_, gr_trans (grown_putRow' w g n _) (gr_grow _ _ _)⟩
    rw [own_map]
    have hlen : (l.mergeSort fun x y => decide (x ≤ y)).length = l.length := List.length_mergeSort _
    have h1 := Lib.ownsRow_putRow (q := n) (ys := l.mergeSort fun x y => decide (x ≤ y)) h hlen (Nat.le_refl _)
    rw [List.take_of_length_le (by omega)] at h1
    rw [hlen]
    exact h1.kept (gr_grow _ _ none) (Classical.em _)

theorem compactI_any (v : Value) (l : List Int) (B : Nat) (w : World) (h : OwnAt w B 3 1 encI v l) (hl : l.length ≤ 500000) :
    Calls Try.prog 101 #[v] w fun e w' => ∃ v', e = .returned v' ∧ OwnAt w' B 3 1 encI v' (Lib.compact l) ∧ w.grownBy w' v.ownBlock := by
  by_cases h0 : l = []
  · subst h0
    obtain ⟨p, cap, rfl⟩ := h.shape
    refine (Try.slices_Compact_int_empty p cap w).mono ?_
    rintro e w' ⟨rfl, rfl⟩
    exact ⟨_, rfl, h, World.grownBy.refl _ _⟩
  · obtain ⟨g, cap, rfl, hBg, hg, hlc⟩ := h.form (List.length_pos_iff.2 h0)
    rw [own_map] at h
    obtain ⟨g', cap', e1, _, _, _, _, _, hH⟩ := Lib.holds_of_ownsRow h (by simp)
    cases e1
    have hcl := Lib.compact_length_le l
    refine (Try.slices_Compact_int g 0 cap l w hH (by omega) hlc).mono ?_
    rintro e w' ⟨rfl, n, rfl⟩
    refine ⟨_, rfl, ?_, grown_putRow' w g n _⟩
    rw [own_map]
    have h1 := Lib.ownsRow_putRow (q := n) (ys := Lib.compact l ++ List.replicate (l.length - (Lib.compact l).length) 0) h (by simp; omega) hcl
    rw [List.take_left' rfl] at h1
    exact h1

set_option maxHeartbeats 1000000 in
set_option maxRecDepth 100000 in
theorem cutsOf_any (v : Value) (E : List Ed) (B : Nat) (w : World) (h : OwnAt w B 124 5 encE v E) (hl : E.length ≤ 240000) :
    Calls Try.prog 88 #[v] w fun e w' => ∃ v', e = .returned v' ∧ OwnAt w' w.heap.size 3 1 encI v' (cutsL E) ∧ Below w.heap.size w w' := by
  obtain ⟨i0, hi, hz0, hz1, hz2⟩ := info_parts info_int
  have h2 := h.shape
  obtain ⟨p, cap, rfl⟩ := h2
  have HE := Lib.hid h
  obtain ⟨n, hn⟩ : ∃ n, n = E.length := ⟨_, rfl⟩
  rw [← hn]
  have N := Lib.hid hn
  have hn' : (n : Int) ≤ 240000 := by omega
  clear h hn
  go_enter Try.func88, Try.ntmps88
  go_wp2
  go_loopw [3, 8] (fun u i wr => ∃ k : Nat, k ≤ n ∧ i = .int .i64 k ∧ OwnAt wr w.heap.size 3 1 encI u ((E.take k).flatMap fun e => [e.lo, e.hi]) ∧ Below w.heap.size w wr) (fun _ i _ => n - (intOf i).toNat)
  case atStart => exact ⟨0, Nat.zero_le _, rfl, OwnAt.nil .., Below.refl _ _⟩
  case round =>
    obtain ⟨k, hk, rfl, hown, hb⟩ := hrel
    by_cases hkn : k < n
    · have hkE : k < E.length := by rw [← N.out]; exact hkn
      have hE := HE.out.kept hb
      obtain ⟨g, cap', e1, _, hg, _⟩ := hE.form (by omega)
      cases e1
      have d0 := hE.cell encE_len rfl hkE (i := 0) rfl
      have d1 := hE.cell encE_len rfl hkE (i := 1) rfl
      have d2 := hE.cell encE_len rfl hkE (i := 2) rfl
      have d3 := hE.cell encE_len rfl hkE (i := 3) rfl
      have d4 := hE.cell encE_len rfl hkE (i := 4) rfl
      have hkn' : (k : Int) < (n : Int) := by omega
      have HB := Lib.hid hb
      have hstep : ((E.take (k + 1)).flatMap fun e => [e.lo, e.hi]) = ((E.take k).flatMap fun e => [e.lo, e.hi]) ++ [E[k]!.lo, E[k]!.hi] := by
        rw [List.take_succ_eq_append_getElem hkE, List.flatMap_append, getElem!_pos E k hkE]; simp
      have hlen : ((E.take k).flatMap fun e => [e.lo, e.hi]).length = 2 * k := by
        have : ∀ l : List Ed, (l.flatMap fun e => [e.lo, e.hi]).length = 2 * l.length := fun l => by
          induction l with
          | nil => rfl
          | cons e l ih => rw [List.flatMap_cons, List.length_append, ih]; simp; omega
        rw [this, List.length_take]; omega
      have HS := Lib.hid hstep
      have hxs := hown
      unfold OwnAt at hxs
      rw [hlen] at hxs
      clear hE hb hown hstep
      generalize E[k]! = r at *
      generalize hl0 : ((E.take k).flatMap fun e => [e.lo, e.hi]) = l0 at *
      generalize hxe : l0.flatMap encI = xs at hxs
      simp only [Nat.add_zero] at d0
      go_wp2_with (first | (at_builtin; refine wpList_append_own _ rfl _ _ 22 rfl w.heap.size 3 i0 _ 1 8 Try.underlying22 hi hz0 hz1 hz2 rfl (by decide) _ _ _ rfl ((hxs.alloc _).alloc _) ⟨wr.heap.size + 1, 0, none⟩ 2 2 [.int .i64 r.lo, .int .i64 r.hi] rfl rfl ?c1 ?c2 ?c3 ?c4 ?c5 ?_))
      case c1 => exact news_at (by simp)
      case c2 => exact List.all_eq_true.1 (by rfl)
      case c3 => unfold maxLen; omega
      case c4 => omega
      case c5 => have := HB.out.size; simp; omega
      intro v' w1 hown1 hgrow _
      subst hxe
      have HB2 := Lib.hid ((((HB.out.alloc HB.out.size _).alloc (by have := HB.out.size; simp; omega) _).grown hgrow (by have := HB.out.size; simp; omega) (ownsRow_ge hxs)))
      have HO2 := Lib.hid (OwnAt.snoc (l := l0) (m := [r.lo, r.hi]) (n := 2) (enc := encI) rfl (by rw [hlen]; exact hown1))
      clear hxs hown1 hgrow
      go_wp2
      go_roundw
      case rel => exact ⟨k + 1, by omega, by simp, by rw [HS.out]; exact HO2.out, HB2.out⟩
      case measure => simp [intOf]; omega
    · obtain rfl : k = n := by omega
      rw [N.out, List.take_of_length_le (Nat.le_refl _)] at hown
      have HB := Lib.hid hb
      have hlen : (E.flatMap fun e => [e.lo, e.hi]).length ≤ 500000 := by
        have : ∀ l : List Ed, (l.flatMap fun e => [e.lo, e.hi]).length = 2 * l.length := fun l => by
          induction l with
          | nil => rfl
          | cons e l ih => rw [List.flatMap_cons, List.length_append, ih]; simp; omega
        rw [this]; omega
      have HC := Lib.hid (fun w' (h : OwnAt w' w.heap.size 3 1 encI u3 ((E.flatMap fun e => [e.lo, e.hi]).mergeSort fun x y => decide (x ≤ y))) => compactI_any u3 _ w.heap.size w' h (by rw [List.length_mergeSort]; exact hlen))
      have HO := Lib.hid (ownsRow_ge hown)
      have HS := Lib.hid (sortI_any u3 _ w.heap.size wr hown hlen)
      clear hown hb hlen
      go_wp2_with (first
        | (go_at_call 100; refine HS.out.mono ?_; rintro e w1 ⟨rfl, h1, h2⟩; have H1 := Lib.hid h1; have H2 := Lib.hid h2; clear h1 h2)
        | (go_at_call 101; refine (HC.out _ H1.out).mono ?_; rintro e w2 ⟨v2, rfl, h3, h4⟩; have H3 := Lib.hid h3; have H4 := Lib.hid h4; clear h3 h4))
      go_ret
      exact ⟨_, rfl, H3.out, (HB.out.grown H2.out HB.out.size HO.out).grown H4.out (by have := HB.out.size; have := H2.out.size; omega) HO.out⟩
end Go.Proofs.Ytkpmgdhaollheaa
