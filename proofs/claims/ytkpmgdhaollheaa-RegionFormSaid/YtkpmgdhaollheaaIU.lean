/- How many pieces there are, and how many bands and spans come of them. -/
import Derived.Test.YtkpmgdhaollheaaIT
import Derived.Test.YtkpmgdhaollheaaGJ
namespace Go.Proofs.Ytkpmgdhaollheaa
open Go.RowKit Go.Shelf

theorem psStep_len (s : PsN) (e : Ed) : (psStep s e).out.length ≤ s.out.length + 1 := by
  unfold psStep
  split
  · exact Nat.le_succ _
  · dsimp only
    split
    · simp
    · exact Nat.le_succ _
theorem psFold_len : ∀ (R : List Ed) (s : PsN), (R.foldl psStep s).out.length ≤ s.out.length + R.length
  | [], s => Nat.le_refl _
  | e :: R, s => by
    have h1 := psFold_len R (psStep s e)
    have h2 := psStep_len s e
    simp only [List.foldl_cons, List.length_cons]
    omega
theorem piecesRow_len (n : Nat) (R : List Ed) : (piecesRow n R).length ≤ R.length := by
  have := psFold_len R ⟨[], List.replicate n 0, 0, 0⟩
  unfold piecesRow psSt
  simpa using this
theorem rise_lenG (row rest : List Ed) (y : Int) : (riseRow row rest y).length + (riseRest rest y).length ≤ row.length + rest.length := by
  have h1 : (riseRow row rest y).length ≤ (mergeL row (rest.takeWhile (atLo y))).length := List.length_filter_le _ _
  rw [(mergeL_perm _ _).length_eq, List.length_append] at h1
  have h2 : (rest.takeWhile (atLo y)).length + (riseRest rest y).length = rest.length := by
    unfold riseRest
    rw [← List.length_append, List.takeWhile_append_dropWhile]
  omega
theorem piecesG_len (n : Nat) : ∀ (cuts : List Int) (row rest : List Ed), (piecesG n row rest cuts).length ≤ cuts.length * (row.length + rest.length)
  | [], _, _ => by simp [piecesG]
  | [_], _, _ => by simp [piecesG]
  | lo :: hi :: cs, row, rest => by
    have h1 := piecesG_len n (hi :: cs) (riseRow row rest lo) (riseRest rest lo)
    have h2 := rise_lenG row rest lo
    have h3 := piecesRow_len n (riseRow row rest lo)
    rw [piecesG, List.length_append, List.length_map, List.length_cons, Nat.add_mul, Nat.one_mul]
    have h4 := Nat.mul_le_mul_left (hi :: cs).length h2
    omega
theorem pcs_len {Ls : List (List Rc)} {xs : List (Int × Rc)} (h : PcsOf Ls xs) : xs.length ≤ 8 * (tot Ls * tot Ls) := by
  obtain ⟨E, hp, _, rfl⟩ := h
  have h1 := piecesG_len Ls.length (cutsL E) [] E
  have h2 := (cutsL_ok E).2.2
  have h3 : E.length = 2 * tot Ls := by rw [hp.length_eq]; exact edgesFrom_len Ls 0
  rw [List.length_nil, Nat.zero_add] at h1
  rw [h3] at h1 h2
  have h4 : (cutsL E).length * (2 * tot Ls) ≤ (2 * (2 * tot Ls)) * (2 * tot Ls) := Nat.mul_le_mul_right _ h2
  have h5 : (2 * (2 * tot Ls)) * (2 * tot Ls) = 8 * (tot Ls * tot Ls) := by
    rw [← Nat.mul_assoc 2 2, Nat.mul_mul_mul_comm, ]
  omega

theorem settledL_len : ∀ l : List Band, (settledL l).length ≤ l.length
  | [] => Nat.le_refl _
  | [_] => Nat.le_refl _
  | [b, n] => by unfold settledL; split <;> simp
  | b :: d :: e :: l => by
    have := settledL_len (d :: e :: l)
    simp only [settledL, List.length_cons] at this ⊢
    omega
theorem settledL_flat : ∀ l : List Band, (flat (settledL l)).length ≤ (flat l).length
  | [] => Nat.le_refl _
  | [_] => Nat.le_refl _
  | [b, n] => by unfold settledL; split <;> simp [flat]
  | b :: d :: e :: l => by
    have := settledL_flat (d :: e :: l)
    rw [settledL, flat_cons, flat_cons b, List.length_append, List.length_append]
    simp only [List.length_map]
    omega
theorem addL_len (l : List Band) (r : Rc) : (addL l r).length ≤ l.length + 1 := by
  rcases List.eq_nil_or_concat l with rfl | ⟨m, b, rfl⟩
  · exact Nat.le_refl _
  · rw [List.concat_eq_append]
    by_cases h : b.lo = r.b
    · rw [addL_in _ _ _ h]; simp
    · rw [addL_new _ _ (by intro c hc; simp at hc; subst hc; exact h)]
      have := settledL_len (m ++ [b])
      rw [List.length_append, List.length_singleton]
      omega
theorem addL_flat (l : List Band) (r : Rc) : (flat (addL l r)).length ≤ (flat l).length + 1 := by
  rcases List.eq_nil_or_concat l with rfl | ⟨m, b, rfl⟩
  · exact Nat.le_refl _
  · rw [List.concat_eq_append]
    by_cases h : b.lo = r.b
    · rw [addL_in _ _ _ h, flat_append, flat_append, List.length_append, List.length_append]
      have := pushS_len (r.l, r.r) b.c
      simp only [flat, List.flatMap_cons, List.flatMap_nil, List.append_nil, List.length_map] at this ⊢
      omega
    · rw [addL_new _ _ (by intro c hc; simp at hc; subst hc; exact h)]
      have := settledL_flat (m ++ [b])
      rw [flat_append, List.length_append]
      have e : (flat [(⟨r.b, r.h, [(r.l, r.r)]⟩ : Band)]).length = 1 := rfl
      omega
theorem sqL_snoc (rs : List Rc) (r : Rc) : sqL (rs ++ [r]) = addL (sqL rs) r := by
  unfold sqL
  rw [List.foldl_append]
  rfl
theorem fold_len : ∀ (rs : List Rc) (l : List Band), (rs.foldl addL l).length ≤ l.length + rs.length ∧ (flat (rs.foldl addL l)).length ≤ (flat l).length + rs.length
  | [], _ => ⟨Nat.le_refl _, Nat.le_refl _⟩
  | r :: rs, l => by
    have h1 := fold_len rs (addL l r)
    have h2 := addL_len l r
    have h3 := addL_flat l r
    simp only [List.foldl_cons, List.length_cons]
    omega
theorem mem_flat_len : ∀ {l : List Band} {b : Band}, b ∈ l → b.c.length ≤ (flat l).length
  | [], _, h => by cases h
  | a :: l, b, h => by
    rw [flat_cons, List.length_append, List.length_map]
    rcases List.mem_cons.1 h with rfl | h
    · omega
    · have := mem_flat_len h
      omega
theorem kept_len (K : Int → Bool) (ps : List (Int × Rc)) : (keptR K ps).length ≤ ps.length := by
  unfold keptR
  rw [List.length_map]
  exact List.length_filter_le _ _
theorem sq_bounds (K : Int → Bool) (ps : List (Int × Rc)) : (sqL (keptR K ps)).length ≤ ps.length ∧ (flat (sqL (keptR K ps))).length ≤ ps.length ∧ ∀ b ∈ sqL (keptR K ps), b.c.length ≤ ps.length := by
  have h1 := fold_len (keptR K ps) []
  have h2 := kept_len K ps
  have e1 : ([] : List Band).length = 0 := rfl
  have e2 : (flat []).length = 0 := rfl
  refine ⟨by unfold sqL; omega, by unfold sqL; omega, fun b hb => ?_⟩
  have h3 := mem_flat_len hb
  unfold sqL at h3
  omega
theorem kept_snoc (K : Int → Bool) (ps : List (Int × Rc)) (s : Int) (r : Rc) : keptR K (ps ++ [(s, r)]) = if K s = true then keptR K ps ++ [r] else keptR K ps := by
  unfold keptR
  rw [List.filter_append]
  by_cases h : K s = true <;> simp [h]
end Go.Proofs.Ytkpmgdhaollheaa
