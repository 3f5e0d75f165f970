/- What a symmetric merge does, said of arrays. -/
import Derived.Test.YtdiogfjbjdiclaaRot
namespace Go.Proofs.Ytdiogfjbjdiclaa
open Go.Sort
variable {α : Type} [Inhabited α]

theorem rot_perm {d d' : Array α} {a m b : Nat} (h1 : a ≤ m) (h2 : m ≤ b) (hb : b ≤ d.size) (h : RotTo d d' a m b) : PermIn a b d d' := by
  obtain ⟨h0, ho, hl, hr⟩ := h
  refine ⟨h0, ho, ?_⟩
  rw [extract_toList d' a b (by omega), extract_toList d a b hb]
  have e1 : List.range' a (b - a) = List.range' a (b - m) ++ List.range' (a + (b - m)) (m - a) := by
    rw [show b - a = (b - m) + (m - a) by omega]
    exact List.range'_append_1.symm
  have e2 : List.range' a (b - a) = List.range' a (m - a) ++ List.range' m (b - m) := by
    have hm : a + (m - a) = m := by omega
    have h := (List.range'_append_1 (s := a) (m := m - a) (n := b - m)).symm
    rw [hm] at h
    rw [show b - a = (m - a) + (b - m) by omega]
    exact h
  conv => lhs; rw [e1]
  rw [e2, List.map_append, List.map_append]
  have f1 : (List.range' a (b - m)).map (fun i => d'[i]!) = (List.range' m (b - m)).map (fun i => d[i]!) := by
    apply List.ext_getElem (by simp)
    intro i hi1 hi2
    simp only [List.length_map, List.length_range'] at hi1
    simp only [List.getElem_map, List.getElem_range', Nat.one_mul]
    rw [hl (a + i) (by omega) (by omega)]
    exact get_at d (by omega)
  have f2 : (List.range' (a + (b - m)) (m - a)).map (fun i => d'[i]!) = (List.range' a (m - a)).map (fun i => d[i]!) := by
    apply List.ext_getElem (by simp)
    intro i hi1 hi2
    simp only [List.length_map, List.length_range'] at hi1
    simp only [List.getElem_map, List.getElem_range', Nat.one_mul]
    rw [hr (a + (b - m) + i) (by omega) (by omega)]
    exact get_at d (by omega)
  rw [f1, f2]
  exact List.perm_append_comm

/-- Two runs that are sorted, and compared right against left as L orders them. -/
structure Runs (lt L : α → α → Bool) (a m b : Nat) (d : Array α) : Prop where
  left : SortedIn L a m d
  right : SortedIn L m b d
  agree : ∀ p q, a ≤ p → p < m → m ≤ q → q < b → lt d[q]! d[p]! = L d[q]! d[p]!

/-- Where the runs are cut: what stays ahead of c, and what comes behind. -/
structure CutAt (L : α → α → Bool) (a m b s e : Nat) (d : Array α) : Prop where
  h1 : ∀ x y, a ≤ x → x < s → e ≤ y → y < b → L d[y]! d[x]! = false
  h2 : ∀ x y, s ≤ x → x < m → m ≤ y → y < e → L d[y]! d[x]! = true

theorem cut_cross {L : α → α → Bool} (hL : SWO L) {lt : α → α → Bool} {a m b s e : Nat} {d d' : Array α} (has : a ≤ s) (hsm : s ≤ m) (hme : m ≤ e) (heb : e ≤ b) (hR : Runs lt L a m b d) (hC : CutAt L a m b s e d) (h : RotTo d d' s m e)
    (p q : Nat) (hp1 : a ≤ p) (hp2 : p < s + (e - m)) (hq1 : s + (e - m) ≤ q) (hq2 : q < b) : L d'[q]! d'[p]! = false := by
  obtain ⟨h0, ho, hl, hr⟩ := h
  by_cases cp : p < s
  · rw [ho p (by omega)]
    by_cases cq : q < e
    · rw [hr q hq1 cq]
      exact hR.left p _ hp1 (by omega) (by omega)
    · rw [ho q (by omega)]
      exact hC.h1 p q hp1 cp (by omega) hq2
  · rw [hl p (by omega) hp2]
    by_cases cq : q < e
    · rw [hr q hq1 cq]
      have := hC.h2 (q - (e - m)) (p + (m - s)) (by omega) (by omega) (by omega) (by omega)
      exact hL.asymmA this
    · rw [ho q (by omega)]
      exact hR.right _ q (by omega) (by omega) hq2

theorem runs_first {lt L : α → α → Bool} {a m b s e : Nat} {d d' : Array α} (has : a ≤ s) (hsm : s ≤ m) (hme : m ≤ e) (heb : e ≤ b) (hR : Runs lt L a m b d) (h : RotTo d d' s m e) : Runs lt L a s (s + (e - m)) d' := by
  obtain ⟨h0, ho, hl, hr⟩ := h
  refine ⟨fun i j h1 h2 h3 => ?_, fun i j h1 h2 h3 => ?_, fun p q h1 h2 h3 h4 => ?_⟩
  · rw [ho i (by omega), ho j (by omega)]
    exact hR.left i j h1 h2 (by omega)
  · rw [hl i (by omega) (by omega), hl j (by omega) h3]
    exact hR.right _ _ (by omega) (by omega) (by omega)
  · rw [ho p (by omega), hl q h3 h4]
    exact hR.agree p _ h1 (by omega) (by omega) (by omega)

theorem runs_second {lt L : α → α → Bool} {a m b s e : Nat} {d d' : Array α} (has : a ≤ s) (hsm : s ≤ m) (hme : m ≤ e) (heb : e ≤ b) (hR : Runs lt L a m b d) (h : RotTo d d' s m e) : Runs lt L (s + (e - m)) e b d' := by
  obtain ⟨h0, ho, hl, hr⟩ := h
  refine ⟨fun i j h1 h2 h3 => ?_, fun i j h1 h2 h3 => ?_, fun p q h1 h2 h3 h4 => ?_⟩
  · rw [hr i h1 (by omega), hr j (by omega) h3]
    exact hR.left _ _ (by omega) (by omega) (by omega)
  · rw [ho i (by omega), ho j (by omega)]
    exact hR.right i j (by omega) h2 h3
  · rw [hr p h1 h2, ho q (by omega)]
    exact hR.agree _ q (by omega) (by omega) (by omega) h4

/-- Both parts sorted, and the cut between them in order: the whole is sorted. -/
theorem sorted_join {L : α → α → Bool} {a c b : Nat} {d : Array α} (h1 : SortedIn L a c d) (h2 : SortedIn L c b d) (hx : ∀ p q, a ≤ p → p < c → c ≤ q → q < b → L d[q]! d[p]! = false) : SortedIn L a b d := by
  intro i j hi hij hj
  by_cases ci : i < c
  · by_cases cj : j < c
    · exact h1 i j hi hij cj
    · exact hx i j hi ci (by omega) hj
  · exact h2 i j (by omega) hij hj

theorem runs_id {lt L : α → α → Bool} {a b : Nat} {d : Array α} {m : Nat} (h : m = a ∨ m = b) (hR : Runs lt L a m b d) : SortedIn L a b d := by
  rcases h with rfl | rfl
  · exact hR.right
  · exact hR.left

/-- The halves, sorted one after the other, and the whole. -/
theorem merge_end {L : α → α → Bool} {a c b s m e : Nat} {d d1 d2 d3 : Array α} (hac : a ≤ c) (hcb : c ≤ b) (hb : b ≤ d.size) (has : a ≤ s) (hsm : s ≤ m) (hme : m ≤ e) (heb : e ≤ b)
    (h : RotTo d d1 s m e) (hx : ∀ p q, a ≤ p → p < c → c ≤ q → q < b → L d1[q]! d1[p]! = false) (h12 : SortedTo L a c d1 d2) (h23 : SortedTo L c b d2 d3) : SortedTo L a b d d3 := by
  have z1 := h.1
  have z2 := h12.1.1
  have z3 := h23.1.1
  have p1 : PermIn a b d d1 := permIn_mono d d1 s e a b has heb hb (rot_perm hsm hme (by omega) h)
  have p2 : PermIn a b d1 d2 := permIn_mono d1 d2 a c a b (Nat.le_refl _) hcb (by omega) h12.1
  have p3 : PermIn a b d2 d3 := permIn_mono d2 d3 c b a b hac (Nat.le_refl _) (by omega) h23.1
  refine ⟨permIn_trans _ _ _ _ _ p1 (permIn_trans _ _ _ _ _ p2 p3), sorted_join ?_ h23.2 ?_⟩
  · intro i j h1 h2 h3
    rw [h23.1.2.1 i (by omega), h23.1.2.1 j (by omega)]
    exact h12.2 i j h1 h2 h3
  · intro p q hp1 hp2 hq1 hq2
    rw [h23.1.2.1 p (by omega)]
    refine permIn_all d2 d3 c b (fun v => L v d2[p]! = false) (by omega) h23.1 (fun i hi1 hi2 => ?_) q hq1 hq2
    rw [h12.1.2.1 i (by omega)]
    exact permIn_all d1 d2 a c (fun v => L d1[i]! v = false) (by omega) h12.1 (fun k hk1 hk2 => hx k i hk1 hk2 hi1 hi2) p hp1 hp2

end Go.Proofs.Ytdiogfjbjdiclaa
