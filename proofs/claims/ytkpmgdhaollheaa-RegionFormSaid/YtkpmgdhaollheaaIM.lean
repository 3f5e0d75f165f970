/- Pieces of the plane: what the sweep over rows of edges gives; the canonical form out of them. -/
import Derived.Test.YtkpmgdhaollheaaGEdN
namespace Go.Proofs.Ytkpmgdhaollheaa

instance : Inhabited Ed := ⟨⟨0, 0, 0, 0, 0⟩⟩

/-! ### One row -/
structure PsN where
  out : List (Int × Sp)
  c : List Int
  x : Int
  set : Int
def psStep (s : PsN) (e : Ed) : PsN :=
  if maskC (bump s.c e.list.toNat e.more) = s.set then ⟨s.out, bump s.c e.list.toNat e.more, s.x, s.set⟩
  else ⟨if s.x < e.x ∧ s.set ≠ 0 then s.out ++ [(s.set, (s.x, e.x))] else s.out, bump s.c e.list.toNat e.more, e.x, maskC (bump s.c e.list.toNat e.more)⟩
def psSt (n : Nat) (R : List Ed) : PsN := R.foldl psStep ⟨[], List.replicate n 0, 0, 0⟩
def piecesRow (n : Nat) (R : List Ed) : List (Int × Sp) := (psSt n R).out
/-- The spans of the pieces that are kept, joined. -/
def keptOf (K : Int → Bool) (ps : List (Int × Sp)) : List Sp := (ps.filter fun p => K p.1).foldl (fun acc p => pushS acc p.2) []
theorem keptOf_snoc (K : Int → Bool) (ps : List (Int × Sp)) (p : Int × Sp) : keptOf K (ps ++ [p]) = if K p.1 = true then pushS (keptOf K ps) p.2 else keptOf K ps := by
  unfold keptOf
  rw [List.filter_append, List.foldl_append]
  by_cases h : K p.1 = true <;> simp [h]

structure PsInv (K : Int → Bool) (n : Nat) (y : Int) (R P Q : List Ed) (X : Int) (s : PsN) : Prop where
  len : s.c.length = n
  c : ∀ j : Nat, j < n → s.c[j]! = wsum (wt (j : Int) y fun _ => true) P
  st : s.set = maskC s.c
  left : ∀ e ∈ P, e.x ≤ X
  right : ∀ e ∈ Q, X ≤ e.x
  sx : s.set ≠ 0 → s.x ≤ X
  ok : sok (keptOf K s.out)
  hi : ∀ p ∈ runs (keptOf K s.out), p.hi ≤ if s.set = 0 then X else s.x
  val : ∀ x, sval (keptOf K s.out) x = (decide (x < if s.set = 0 then X else s.x) && keepK K (maskC (covN n y x R)))
  mid : ∀ x, s.set ≠ 0 → s.x ≤ x → x < X → maskC (covN n y x R) = s.set

theorem ps_inv {K : Int → Bool} {n : Nat} {y : Int} {R : List Ed} (hl : ∀ e ∈ R, (0 ≤ e.list ∧ e.list < n) ∧ act y e = true) (hs : R.Pairwise fun e f => e.x ≤ f.x) : ∀ (Q P : List Ed) (X : Int) (s : PsN), R = P ++ Q → PsInv K n y R P Q X s → ∃ X', PsInv K n y R R [] X' (Q.foldl psStep s)
  | [], P, X, s, hE, h => by
    rw [List.append_nil] at hE
    subst hE
    exact ⟨X, h⟩
  | e :: Q, P, X, s, hE, h => by
    have hE' : R = (P ++ [e]) ++ Q := by rw [hE]; simp
    have hmem : e ∈ R := by rw [hE]; simp
    have hQ : ∀ f ∈ Q, e.x ≤ f.x := by
      rw [hE] at hs
      exact (List.pairwise_cons.1 (List.pairwise_append.1 hs).2.1).1
    have hx := h.right e (by simp)
    obtain ⟨⟨hl0, hl1⟩, hact⟩ := hl e hmem
    obtain ⟨jj, hjj⟩ : ∃ jj : Nat, e.list = jj := ⟨e.list.toNat, by omega⟩
    have hcount : ∀ j x, X ≤ x → x < e.x → wsum (wt j y (left0 x)) R = wsum (wt j y fun _ => true) P := by
      intro j x h1 h2
      rw [hE, wsum_append, wsum_zero (E := e :: Q), Int.add_zero]
      · refine wsum_congr fun f hf => ?_
        have := h.left f hf
        have h3 : f.x ≤ x := by omega
        simp [wt, left0, h3]
      · intro f hf
        have h3 : ¬ f.x ≤ x := by
          rcases List.mem_cons.1 hf with rfl | hf
          · omega
          · have := hQ f hf; omega
        simp [wt, left0, h3]
    have hmask : ∀ x, X ≤ x → x < e.x → maskC (covN n y x R) = s.set := fun x h1 h2 => by
      rw [covN_eq h.len fun j hj => by rw [hcount j x h1 h2, h.c j hj], h.st]
    have hmask2 : ∀ x, s.set ≠ 0 → s.x ≤ x → x < e.x → maskC (covN n y x R) = s.set := fun x h0 h1 h2 => by
      rcases Int.lt_or_le x X with hlt | hle
      · exact h.mid x h0 h1 hlt
      · exact hmask x hle h2
    have hc' : ∀ j : Nat, j < n → (bump s.c e.list.toNat e.more)[j]! = wsum (wt (j : Int) y fun _ => true) (P ++ [e]) := fun j hj => by
      rw [hjj, Int.toNat_natCast, bump_get (by rw [h.len]; exact hj), wsum_append, ← h.c j hj]
      by_cases hjj' : j = jj
      · subst hjj'
        rw [if_pos rfl]
        simp [wsum, wt, hjj, hact]
      · rw [if_neg hjj']
        have : ¬ (e.list = (j : Int)) := by omega
        simp [wsum, wt, this]
    have hleft' : ∀ f ∈ P ++ [e], f.x ≤ e.x := fun f hf => by
      rcases List.mem_append.1 hf with hf | hf
      · have := h.left f hf
        omega
      · simp at hf; subst hf; exact Int.le_refl _
    rw [List.foldl_cons]
    by_cases hn : maskC (bump s.c e.list.toNat e.more) = s.set
    · have hst : psStep s e = ⟨s.out, bump s.c e.list.toNat e.more, s.x, s.set⟩ := by simp only [psStep]; rw [if_pos hn]
      rw [hst]
      refine ps_inv hl hs Q (P ++ [e]) e.x _ hE' ⟨by rw [bump_len]; exact h.len, hc', hn.symm, hleft', hQ, fun h0 => by have := h.sx h0; simp only; omega, h.ok, fun p hp => ?_, fun x => ?_, fun x h0 h1 h2 => hmask2 x h0 h1 h2⟩
      · have := h.hi p hp
        simp only
        split at this <;> rename_i hz
        · rw [if_pos hz]; omega
        · rw [if_neg hz]; exact this
      · have hv := h.val x
        simp only
        rw [hv]
        by_cases hz : s.set = 0
        · rw [if_pos hz, if_pos hz]
          by_cases hxX : x < X
          · have : x < e.x := by omega
            simp [hxX, this]
          · by_cases hxe : x < e.x
            · have hm := hmask x (by omega) hxe
              simp [hxX, hm, hz, keepK]
            · simp [hxX, hxe]
        · rw [if_neg hz, if_neg hz]
    · have hst : psStep s e = ⟨if s.x < e.x ∧ s.set ≠ 0 then s.out ++ [(s.set, (s.x, e.x))] else s.out, bump s.c e.list.toNat e.more, e.x, maskC (bump s.c e.list.toNat e.more)⟩ := by simp only [psStep]; rw [if_neg hn]
      rw [hst]
      have hif : ∀ m : Int, (if m = 0 then e.x else e.x) = e.x := fun m => by split <;> rfl
      have hk : keptOf K (if s.x < e.x ∧ s.set ≠ 0 then s.out ++ [(s.set, (s.x, e.x))] else s.out) = if s.x < e.x ∧ s.set ≠ 0 ∧ K s.set = true then pushS (keptOf K s.out) (s.x, e.x) else keptOf K s.out := by
        by_cases h1 : s.x < e.x ∧ s.set ≠ 0
        · rw [if_pos h1, keptOf_snoc]
          by_cases h2 : K s.set = true
          · rw [if_pos h2, if_pos ⟨h1.1, h1.2, h2⟩]
          · rw [if_neg h2, if_neg (fun hh => h2 hh.2.2)]
        · rw [if_neg h1, if_neg (fun hh => h1 ⟨hh.1, hh.2.1⟩)]
      refine ps_inv hl hs Q (P ++ [e]) e.x _ hE' ⟨by rw [bump_len]; exact h.len, hc', rfl, hleft', hQ, fun _ => Int.le_refl _, ?_, ?_, fun x => ?_, fun x _ h1 h2 => by simp only at h1; omega⟩
      · simp only
        rw [hk]
        split
        · rename_i hc
          have hz : ¬ s.set = 0 := hc.2.1
          unfold sok
          rw [runs_pushS]
          exact rch_push hc.1 h.ok fun p hp => by have := h.hi p hp; rw [if_neg hz] at this; exact this
        · exact h.ok
      · simp only [hif]
        rw [hk]
        split
        · rename_i hc
          have hz : ¬ s.set = 0 := hc.2.1
          rw [runs_pushS]
          exact push_hi (n := ⟨s.x, e.x, true⟩) hc.1 fun p hp => by have := h.hi p hp; rw [if_neg hz] at this; exact this
        · intro p hp
          have := h.hi p hp
          split at this
          · omega
          · rename_i hz
            have := h.sx hz
            omega
      · simp only [hif]
        rw [hk]
        have hv := h.val x
        by_cases hz : s.set = 0
        · rw [if_pos hz] at hv
          rw [if_neg (fun hh => hh.2.1 hz), hv]
          by_cases hxX : x < X
          · have : x < e.x := by omega
            simp [hxX, this]
          · by_cases hxe : x < e.x
            · have hm := hmask x (by omega) hxe
              simp [hxX, hm, hz, keepK]
            · simp [hxX, hxe]
        · rw [if_neg hz] at hv
          by_cases hc : s.x < e.x ∧ s.set ≠ 0 ∧ K s.set = true
          · rw [if_pos hc]
            unfold sval
            rw [runs_pushS, rval_push hc.1 h.ok fun p hp => by have := h.hi p hp; rw [if_neg hz] at this; exact this]
            show (if s.x ≤ x ∧ x < e.x then true else sval (keptOf K s.out) x) = _
            by_cases h1 : s.x ≤ x ∧ x < e.x
            · rw [if_pos h1, hmask2 x hz h1.1 h1.2]
              simp [h1.2, keepK, hc.2.2, hz]
            · rw [if_neg h1, hv]
              by_cases h2 : x < s.x
              · have : x < e.x := by omega
                simp [h2, this]
              · have : ¬ x < e.x := fun hh => h1 ⟨by omega, hh⟩
                simp [h2, this]
          · rw [if_neg hc, hv]
            by_cases h2 : x < s.x
            · have := h.sx hz
              have : x < e.x := by omega
              simp [h2, this]
            · by_cases h3 : x < e.x
              · have hKs : ¬ K s.set = true := fun hh => hc ⟨by omega, hz, hh⟩
                rw [hmask2 x hz (by omega) h3]
                simp [h2, keepK, hKs]
              · simp [h2, h3]

theorem wsum_filter_act (j y : Int) (q : Int → Bool) : ∀ E : List Ed, wsum (wt j y q) (E.filter (act y)) = wsum (wt j y q) E
  | [] => rfl
  | e :: E => by
    have ih := wsum_filter_act j y q E
    by_cases h : act y e = true
    · rw [List.filter_cons_of_pos h]
      show wt j y q e + _ = wt j y q e + _
      rw [ih]
    · rw [List.filter_cons_of_neg h]
      show _ = wt j y q e + wsum _ E
      have : wt j y q e = 0 := by simp [wt, h]
      rw [ih, this, Int.zero_add]

/-- THE KEPT SPANS OF A ROW are those of the set. -/
theorem row_spans {K : Int → Bool} {Ls : List (List Rc)} {E R : List Ed} (hr : rowsOf Ls) (hE : E.Perm (edgesFrom 0 Ls)) (y : Int) (hR : R.Perm (E.filter (act y))) (hs : R.Pairwise fun e f => e.x ≤ f.x) :
    sok (keptOf K (piecesRow Ls.length R)) ∧ ∀ x, sval (keptOf K (piecesRow Ls.length R)) x = keepK K (setOf Ls x y) := by
  have hw : ∀ j q, wsum (wt j y q) R = wsum (wt j y q) E := fun j q => by rw [wsum_perm _ hR, wsum_filter_act]
  have hmem : ∀ e ∈ R, (0 ≤ e.list ∧ e.list < (Ls.length : Int)) ∧ act y e = true := by
    intro e he
    obtain ⟨h1, h2⟩ := List.mem_filter.1 (hR.mem_iff.1 he)
    have := (edgesFrom_mem (hE.mem_iff.1 h1)).1
    exact ⟨by simpa using this, h2⟩
  have hcov : ∀ x, maskC (covN Ls.length y x R) = setOf Ls x y := fun x => by
    rw [← mask_cov hr hE]
    unfold covN
    congr 2
    funext j
    rw [hw]
  obtain ⟨X0, hX0⟩ : ∃ X0 : Int, ∀ e ∈ R, X0 ≤ e.x := by
    clear hE hs hmem hR hw hcov
    induction R with
    | nil => exact ⟨0, fun e he => by cases he⟩
    | cons e R ih =>
      obtain ⟨X, hX⟩ := ih
      refine ⟨min X e.x, fun f hf => ?_⟩
      rcases List.mem_cons.1 hf with rfl | hf
      · omega
      · have := hX f hf; omega
  have hzero : ∀ x, (∀ j : Nat, j < Ls.length → wsum (wt (j : Int) y (left0 x)) R = 0) → maskC (covN Ls.length y x R) = 0 := by
    intro x h
    refine mask_zero (c := covN Ls.length y x R) fun v hv => ?_
    obtain ⟨j, hj, rfl⟩ := List.mem_map.1 hv
    exact h j (List.mem_range.1 hj)
  have m0 : maskC (List.replicate Ls.length 0) = 0 := mask_zero fun v hv => (List.mem_replicate.1 hv).2
  have h' := ps_inv (K := K) (y := y) hmem hs R [] X0 ⟨[], List.replicate Ls.length 0, 0, 0⟩ rfl ⟨by simp, fun j hj => by show (List.replicate Ls.length (0 : Int))[j]! = _; rw [getElem!_pos _ _ (by simpa using hj)]; simp [wsum], m0.symm, (fun e he => by cases he), hX0, (fun h => absurd rfl h), trivial, (fun p hp => by cases hp), fun x => ?_, fun x h0 => absurd rfl h0⟩
  · obtain ⟨X, h⟩ := h'
    have hT : ∀ j : Int, wsum (wt j y fun _ => true) R = 0 := fun j => by rw [hw, wsum_perm _ hE, wt_all_from]
    have hset : (psSt Ls.length R).set = 0 := by
      show (R.foldl psStep _).set = 0
      rw [h.st]
      refine mask_zero fun v hv => ?_
      obtain ⟨i, hi, rfl⟩ := List.mem_iff_getElem.1 hv
      have := h.c i (by rw [← h.len]; exact hi)
      rw [getElem!_pos (R.foldl psStep ⟨[], List.replicate Ls.length 0, 0, 0⟩).c i hi] at this
      rw [this]; exact hT _
    refine ⟨h.ok, fun x => ?_⟩
    show sval (keptOf K (psSt Ls.length R).out) x = _
    have hv := h.val x
    rw [show R.foldl psStep _ = psSt Ls.length R from rfl] at hv
    rw [hv, if_pos hset, hcov]
    by_cases hx : x < X
    · simp only [hx, decide_true, Bool.true_and]
    · simp only [hx, decide_false, Bool.false_and]
      have hm := hzero x fun j hj => by
        rw [← hT j]
        refine wsum_congr fun f hf => ?_
        have := h.left f hf
        have h3 : f.x ≤ x := by omega
        simp [wt, left0, h3]
      rw [← hcov, hm]
      simp [keepK]
  · simp only [if_pos]
    show false = _
    by_cases hx : x < X0
    · rw [hzero x fun j hj => wsum_zero fun e he => by
        have := hX0 e he
        have h3 : ¬ e.x ≤ x := by omega
        simp [wt, left0, h3]]
      simp [keepK]
    · simp [hx]

/-! ### Rows one above the other -/
/-- More edges among those of a row, by x, from the end. -/
def mergeN (row more : List Ed) : Nat → Nat → List Ed
  | i, 0 => row.take i
  | 0, j + 1 => mergeN row more 0 j ++ [more[j]!]
  | i + 1, j + 1 => if more[j]!.x < row[i]!.x then mergeN row more i (j + 1) ++ [row[i]!] else mergeN row more (i + 1) j ++ [more[j]!]
termination_by i j => (i + j, j)
def mergeL (row more : List Ed) : List Ed := mergeN row more row.length more.length

theorem mergeN_perm (row more : List Ed) : ∀ i j, i ≤ row.length → j ≤ more.length → (mergeN row more i j).Perm (row.take i ++ more.take j)
  | i, 0, _, _ => by simp [mergeN]
  | 0, j + 1, _, hj => by
    have ih := mergeN_perm row more 0 j (Nat.zero_le _) (by omega)
    simp only [List.take_zero, List.nil_append] at ih ⊢
    rw [mergeN, List.take_succ_eq_append_getElem (by omega), getElem!_pos more j (by omega)]
    exact ih.append_right _
  | i + 1, j + 1, hi, hj => by
    rw [mergeN]
    split
    · have ih := mergeN_perm row more i (j + 1) (by omega) hj
      refine (ih.append_right _).trans ?_
      rw [List.take_succ_eq_append_getElem (show i < row.length by omega), getElem!_pos row i (by omega), List.append_assoc, List.append_assoc]
      exact List.Perm.append_left _ List.perm_append_comm
    · have ih := mergeN_perm row more (i + 1) j hi (by omega)
      refine (ih.append_right _).trans ?_
      rw [List.take_succ_eq_append_getElem (show j < more.length by omega), getElem!_pos more j (by omega), List.append_assoc]
termination_by i j => (i + j, j)
theorem mergeL_perm (row more : List Ed) : (mergeL row more).Perm (row ++ more) := by
  have := mergeN_perm row more row.length more.length (Nat.le_refl _) (Nat.le_refl _)
  rwa [List.take_of_length_le (Nat.le_refl _), List.take_of_length_le (Nat.le_refl _)] at this

theorem take_le {l : List Ed} (hs : l.Pairwise fun e f => e.x ≤ f.x) {i : Nat} (hi : i < l.length) : ∀ e ∈ l.take (i + 1), e.x ≤ l[i]!.x := by
  intro e he
  rw [List.take_succ_eq_append_getElem hi] at he
  rw [getElem!_pos l i hi]
  rcases List.mem_append.1 he with he | he
  · obtain ⟨k, hk, rfl⟩ := List.mem_take_iff_getElem.1 he
    exact List.pairwise_iff_getElem.1 hs k i (by omega) hi (by omega)
  · simp at he; subst he; exact Int.le_refl _

theorem mergeN_sorted (row more : List Ed) (hr : row.Pairwise fun e f => e.x ≤ f.x) (hm : more.Pairwise fun e f => e.x ≤ f.x) : ∀ i j, i ≤ row.length → j ≤ more.length → (mergeN row more i j).Pairwise fun e f => e.x ≤ f.x
  | i, 0, _, _ => by rw [mergeN]; exact hr.sublist (List.take_sublist _ _)
  | 0, j + 1, _, hj => by
    rw [mergeN, List.pairwise_append]
    refine ⟨mergeN_sorted row more hr hm 0 j (Nat.zero_le _) (by omega), List.pairwise_singleton _ _, fun a ha b hb => ?_⟩
    obtain rfl := List.mem_singleton.1 hb
    have := (mergeN_perm row more 0 j (Nat.zero_le _) (by omega)).mem_iff.1 ha
    simp only [List.take_zero, List.nil_append] at this
    exact take_le (i := j) hm (by omega) a (by rw [List.take_succ_eq_append_getElem (by omega)]; exact List.mem_append_left _ this)
  | i + 1, j + 1, hi, hj => by
    rw [mergeN]
    split
    · rename_i hc
      rw [List.pairwise_append]
      refine ⟨mergeN_sorted row more hr hm i (j + 1) (by omega) hj, List.pairwise_singleton _ _, fun a ha b hb => ?_⟩
      obtain rfl := List.mem_singleton.1 hb
      rcases List.mem_append.1 ((mergeN_perm row more i (j + 1) (by omega) hj).mem_iff.1 ha) with h | h
      · exact take_le (i := i) hr (by omega) a (by rw [List.take_succ_eq_append_getElem (by omega)]; exact List.mem_append_left _ h)
      · have : a.x ≤ more[j]!.x := take_le (i := j) hm (by omega) a h
        show a.x ≤ row[i]!.x
        omega
    · rename_i hc
      rw [List.pairwise_append]
      refine ⟨mergeN_sorted row more hr hm (i + 1) j hi (by omega), List.pairwise_singleton _ _, fun a ha b hb => ?_⟩
      obtain rfl := List.mem_singleton.1 hb
      rcases List.mem_append.1 ((mergeN_perm row more (i + 1) j hi (by omega)).mem_iff.1 ha) with h | h
      · have : a.x ≤ row[i]!.x := take_le (i := i) hr (by omega) a h
        show a.x ≤ more[j]!.x
        omega
      · exact take_le (i := j) hm (by omega) a (by rw [List.take_succ_eq_append_getElem (by omega)]; exact List.mem_append_left _ h)
termination_by i j => (i + j, j)

def atLo (y : Int) (e : Ed) : Bool := decide (e.lo = y)
def above (y : Int) (e : Ed) : Bool := decide (y < e.hi)
def riseRow (row rest : List Ed) (y : Int) : List Ed := (mergeL row (rest.takeWhile (atLo y))).filter (above y)
def riseRest (rest : List Ed) (y : Int) : List Ed := rest.dropWhile (atLo y)

/-- ALL PIECES. -/
def piecesG (n : Nat) : List Ed → List Ed → List Int → List (Int × Rc)
  | row, rest, lo :: hi :: cs => (piecesRow n (riseRow row rest lo)).map (fun p => (p.1, mkR lo hi p.2)) ++ piecesG n (riseRow row rest lo) (riseRest rest lo) (hi :: cs)
  | _, _, _ => []

def loX (e f : Ed) : Prop := e.lo < f.lo ∨ (e.lo = f.lo ∧ e.x ≤ f.x)

/-- What is known ahead of a row. -/
structure RowInv (E row rest : List Ed) (y : Int) : Prop where
  split : ∃ pre, E = pre ++ rest ∧ (∀ e ∈ pre, e.lo < y) ∧ (∀ e ∈ rest, y ≤ e.lo) ∧ (row.filter (above y)).Perm (pre.filter (above y))
  sorted : row.Pairwise fun e f => e.x ≤ f.x

theorem rise_inv {E row rest : List Ed} {y : Int} (hs : E.Pairwise loX) (h : RowInv E row rest y) :
    (riseRow row rest y).Pairwise (fun e f => e.x ≤ f.x) ∧ (riseRow row rest y).Perm (E.filter (act y)) ∧
    ∀ y2, y < y2 → (∀ e ∈ E, y < e.lo → y2 ≤ e.lo) → RowInv E (riseRow row rest y) (riseRest rest y) y2 := by
  obtain ⟨⟨pre, hE, hpre, hrest, hrow⟩, hsorted⟩ := h
  have hrs : rest.Pairwise loX := by rw [hE] at hs; exact (List.pairwise_append.1 hs).2.1
  obtain ⟨T, hT⟩ : ∃ T, T = rest.takeWhile (atLo y) := ⟨_, rfl⟩
  obtain ⟨D, hD⟩ : ∃ D, D = rest.dropWhile (atLo y) := ⟨_, rfl⟩
  have hTD : rest = T ++ D := by rw [hT, hD, List.takeWhile_append_dropWhile]
  have hTlo : ∀ e ∈ T, e.lo = y := by
    intro e he
    rw [hT] at he
    have := List.all_eq_true.1 (List.all_takeWhile (p := atLo y) (l := rest)) e he
    simpa [atLo] using this
  have hDlo : ∀ e ∈ D, y < e.lo := by
    intro e he
    have hle := hrest e (by rw [hTD]; exact List.mem_append_right _ he)
    cases hc : D with
    | nil => rw [hc] at he; cases he
    | cons d D' =>
      have hd0 : atLo y d = false := by
        have h1 : rest.dropWhile (atLo y) = d :: D' := by rw [← hD, hc]
        have := List.head_dropWhile_not (atLo y) (l := rest) (by rw [h1]; simp)
        simpa [h1] using this
      have hdl := hrest d (by rw [hTD, hc]; simp)
      have hdne : d.lo ≠ y := by simpa [atLo] using hd0
      rw [hc] at he
      rcases List.mem_cons.1 he with rfl | he
      · omega
      · have hDs : D.Pairwise loX := by rw [hTD] at hrs; exact (List.pairwise_append.1 hrs).2.1
        rw [hc] at hDs
        have := (List.pairwise_cons.1 hDs).1 e he
        unfold loX at this
        omega
  have hTs : T.Pairwise fun e f => e.x ≤ f.x := by
    have h1 : T.Pairwise loX := by rw [hTD] at hrs; exact (List.pairwise_append.1 hrs).1
    refine List.Pairwise.imp_of_mem (fun {a b} ha hb hab => ?_) h1
    have := hTlo a ha
    have := hTlo b hb
    unfold loX at hab
    omega
  have hm1 := mergeN_sorted row T hsorted hTs row.length T.length (Nat.le_refl _) (Nat.le_refl _)
  have hsort : (riseRow row rest y).Pairwise fun e f => e.x ≤ f.x := by
    unfold riseRow
    rw [← hT]
    exact List.Pairwise.filter _ hm1
  have hperm : (riseRow row rest y).Perm ((pre ++ T).filter (above y)) := by
    unfold riseRow
    rw [← hT]
    refine ((mergeL_perm row T).filter _).trans ?_
    rw [List.filter_append, List.filter_append]
    exact hrow.append_right _
  have hact : E.filter (act y) = (pre ++ T).filter (above y) := by
    rw [hE, hTD, ← List.append_assoc, List.filter_append (p := act y) (pre ++ T) D]
    have e1 : D.filter (act y) = [] := by
      rw [List.filter_eq_nil_iff]
      intro e he
      have := hDlo e he
      have : ¬ e.lo ≤ y := by omega
      simp [act, this]
    rw [e1, List.append_nil]
    refine List.filter_congr fun e he => ?_
    have : e.lo ≤ y := by
      rcases List.mem_append.1 he with he | he
      · have := hpre e he; omega
      · have := hTlo e he; omega
    simp [act, above, this]
  refine ⟨hsort, by rw [hact]; exact hperm, fun y2 hy hlo => ⟨⟨pre ++ T, by unfold riseRest; rw [← hD, hE, hTD, List.append_assoc], fun e he => ?_, fun e he => ?_, ?_⟩, hsort⟩⟩
  · rcases List.mem_append.1 he with he | he
    · have := hpre e he; omega
    · have := hTlo e he; omega
  · unfold riseRest at he
    rw [← hD] at he
    exact hlo e (by rw [hE, hTD]; simp [he]) (hDlo e he)
  · have h1 := hperm.filter (above y2)
    rw [List.filter_filter] at h1
    have h2 : ∀ e : Ed, (above y2 e && above y e) = above y2 e := fun e => by
      simp only [above]
      by_cases h : y2 < e.hi
      · have : y < e.hi := by omega
        simp [h, this]
      · simp [h]
    simp only [h2] at h1
    exact h1

/-! ### Squares: bands to which rectangles are added -/
def settledL : List Band → List Band
  | [] => []
  | [b] => [b]
  | [b, n] => if b.hi = n.lo ∧ b.c = n.c then [⟨b.lo, n.hi, b.c⟩] else [b, n]
  | b :: d :: e :: l => b :: settledL (d :: e :: l)
theorem settled_snoc (n : Band) : ∀ l : List Band, settledL (l ++ [n]) = push l n
  | [] => rfl
  | [b] => rfl
  | b :: d :: l => by
    have ih := settled_snoc n (d :: l)
    cases l with
    | nil => simp only [List.cons_append, List.nil_append, settledL, push]
    | cons e l => 
      simp only [List.cons_append] at ih ⊢
      rw [settledL, ih]; rfl
def addL (l : List Band) (r : Rc) : List Band :=
  match l.getLast? with
  | some b => if b.lo = r.b then l.dropLast ++ [⟨b.lo, b.hi, pushS b.c (r.l, r.r)⟩] else settledL l ++ [⟨r.b, r.h, [(r.l, r.r)]⟩]
  | none => [⟨r.b, r.h, [(r.l, r.r)]⟩]
theorem addL_in (l : List Band) (b : Band) (r : Rc) (h : b.lo = r.b) : addL (l ++ [b]) r = l ++ [⟨b.lo, b.hi, pushS b.c (r.l, r.r)⟩] := by
  simp [addL, h]
theorem addL_new (l : List Band) (r : Rc) (h : ∀ b, l.getLast? = some b → b.lo ≠ r.b) : addL l r = settledL l ++ [⟨r.b, r.h, [(r.l, r.r)]⟩] := by
  unfold addL
  cases hc : l.getLast? with
  | none => 
    have : l = [] := List.getLast?_eq_none_iff.1 hc
    subst this; rfl
  | some b => simp only; rw [if_neg (h b hc)]
def sqL (rs : List Rc) : List Band := rs.foldl addL []
def keptR (K : Int → Bool) (ps : List (Int × Rc)) : List Rc := (ps.filter fun p => K p.1).map Prod.snd

theorem add_slab (lo hi : Int) (A : List Band) : ∀ (ss : List Sp) (c : List Sp), (ss.map (mkR lo hi)).foldl addL (A ++ [⟨lo, hi, c⟩]) = A ++ [⟨lo, hi, ss.foldl pushS c⟩]
  | [], _ => rfl
  | s :: ss, c => by
    rw [List.map_cons, List.foldl_cons, List.foldl_cons, addL_in _ _ _ rfl]
    exact add_slab lo hi A ss _

theorem settled_lo {Q : Int → Prop} : ∀ {l : List Band}, (∀ b ∈ l, Q b.lo) → ∀ b ∈ settledL l, Q b.lo
  | [], h => h
  | [b], h => h
  | [b, n], h => by
    intro x hx
    unfold settledL at hx
    split at hx
    · simp at hx; subst hx; exact h b (by simp)
    · exact h x hx
  | b :: d :: e :: l, h => by
    intro x hx
    rw [settledL] at hx
    rcases List.mem_cons.1 hx with rfl | hx
    · exact h _ (by simp)
    · exact settled_lo (l := d :: e :: l) (fun b hb => h b (List.mem_cons_of_mem _ hb)) x hx

/-- THE SQUARES THAT ARE KEPT, SETTLED, ARE THE RUNS OF THE KEPT SPANS. -/
theorem squares_sweep {K : Int → Bool} {n : Nat} {E : List Ed} {sp : Int → List Sp} (hE : E.Pairwise loX)
    (hsp : ∀ y R, R.Perm (E.filter (act y)) → R.Pairwise (fun e f => e.x ≤ f.x) → keptOf K (piecesRow n R) = sp y) :
    ∀ (cs : List Int) (row rest : List Ed) (st : List Band), cs.Pairwise (· < ·) → (∀ y, cs.head? = some y → RowInv E row rest y ∧ (∀ b ∈ st, b.lo < y)) → (∀ y ∈ cs.head?, ∀ e ∈ E, y < e.lo → e.lo ∈ cs) →
      settledL ((keptR K (piecesG n row rest cs)).foldl addL st) = sweepS [] sp (settledL st) cs
  | [], _, _, _, _, _, _ => rfl
  | [_], _, _, _, _, _, _ => rfl
  | y :: y2 :: cs, row, rest, st, hp, hi, hcut => by
    obtain ⟨hinv, hst⟩ := hi y rfl
    obtain ⟨h1, h2, h3⟩ := rise_inv hE hinv
    have hlt : y < y2 := (List.pairwise_cons.1 hp).1 y2 (by simp)
    have hp2 := (List.pairwise_cons.1 hp).2
    have hnext : ∀ e ∈ E, y < e.lo → y2 ≤ e.lo := fun e he hl => by
      have hm := hcut y rfl e he hl
      rcases List.mem_cons.1 hm with h | h
      · omega
      · rcases List.mem_cons.1 h with h | h
        · omega
        · have := (List.pairwise_cons.1 hp2).1 _ h
          omega
    have hinv2 := h3 y2 hlt hnext
    have hk := hsp y _ h2 h1
    generalize hRR : riseRow row rest y = R at *
    have hps : keptR K ((piecesRow n R).map (fun p => (p.1, mkR y y2 p.2))) = (((piecesRow n R).filter fun p => K p.1).map Prod.snd).map (mkR y y2) := by
      unfold keptR
      rw [List.filter_map, List.map_map, List.map_map]
      rfl
    have hfold : ∀ l : List (Int × Sp), (l.map Prod.snd).foldl pushS [] = l.foldl (fun acc p => pushS acc p.2) [] := fun l => by rw [List.foldl_map]
    have hks : ((((piecesRow n R).filter fun p => K p.1).map Prod.snd)).foldl pushS [] = sp y := by rw [hfold, ← hk]; rfl
    have hsplit : keptR K (piecesG n row rest (y :: y2 :: cs)) = ((((piecesRow n R).filter fun p => K p.1).map Prod.snd).map (mkR y y2)) ++ keptR K (piecesG n R (riseRest rest y) (y2 :: cs)) := by
      rw [piecesG, hRR, ← hps]
      unfold keptR
      rw [List.filter_append, List.map_append]
    rw [hsplit, List.foldl_append, sweepS]
    generalize (((piecesRow n R).filter fun p => K p.1).map Prod.snd) = ss at *
    have hcut2 : ∀ z ∈ (y2 :: cs).head?, ∀ e ∈ E, z < e.lo → e.lo ∈ y2 :: cs := by
      intro z hz e he hl
      simp at hz
      subst hz
      have hm := hcut y rfl e he (by omega)
      rcases List.mem_cons.1 hm with h | h
      · omega
      · exact h
    cases ss with
    | nil =>
      have h0 : sp y = [] := hks.symm
      rw [if_pos h0]
      exact squares_sweep hE hsp (y2 :: cs) R (riseRest rest y) st hp2 (fun z hz => by
        simp at hz; subst hz
        exact ⟨hinv2, fun b hb => by have := hst b hb; omega⟩) hcut2
    | cons s ss =>
      have hne : sp y ≠ [] := by
        rw [← hks, List.foldl_cons]
        intro e
        have hlen : ∀ (l : List Sp) (a : List Sp), a ≠ [] → l.foldl pushS a ≠ [] := by
          intro l
          induction l with
          | nil => intro a h; exact h
          | cons t l ih =>
            intro a h
            rw [List.foldl_cons]
            refine ih _ ?_
            obtain ⟨m, b, rfl⟩ : ∃ m b, a = m ++ [b] := by
              rcases List.eq_nil_or_concat a with h' | ⟨m, b, h'⟩
              · exact absurd h' h
              · exact ⟨m, b, by rw [h', List.concat_eq_append]⟩
            rw [pushS_snoc]
            split <;> simp
        exact hlen ss (pushS [] s) (by simp [pushS]) e
      rw [if_neg hne]
      have e1 : ((s :: ss).map (mkR y y2)).foldl addL st = settledL st ++ [⟨y, y2, sp y⟩] := by
        rw [List.map_cons, List.foldl_cons, addL_new st _ (fun b hb => by
          have := hst b (List.mem_of_getLast? hb)
          simp only [mkR]; omega)]
        have := add_slab y y2 (settledL st) ss [(s.1, s.2)]
        simp only [mkR] at this ⊢
        rw [this, ← hks]
        rfl
      rw [e1, ← settled_snoc]
      refine squares_sweep hE hsp (y2 :: cs) R (riseRest rest y) _ hp2 (fun z hz => ?_) hcut2
      simp at hz; subst hz
      refine ⟨hinv2, fun b hb => ?_⟩
      rcases List.mem_append.1 hb with hb | hb
      · have := settled_lo (Q := fun z => z < y) hst b hb
        omega
      · simp at hb; subst hb; exact hlt

/-- THE CANONICAL FORM OF WHAT IS KEPT. -/
theorem squares_for {K : Int → Bool} {Ls : List (List Rc)} {E : List Ed} {cuts : List Int} (hr : rowsOf Ls) (hE : E.Perm (edgesFrom 0 Ls)) (hs : E.Pairwise loX)
    (hp : cuts.Pairwise (· < ·)) (hcuts : ∀ e ∈ E, e.lo ∈ cuts ∧ e.hi ∈ cuts) : CanonFor (fun x y => keepK K (setOf Ls x y)) (flat (settledL (sqL (keptR K (piecesG Ls.length [] E cuts))))) := by
  obtain ⟨E', hE', hs'⟩ : ∃ E' : List Ed, E'.Perm (edgesFrom 0 Ls) ∧ E'.Pairwise fun e f => e.x ≤ f.x := by
    refine ⟨(edgesFrom 0 Ls).mergeSort fun e f => decide (e.x ≤ f.x), List.mergeSort_perm _ _, ?_⟩
    have := List.pairwise_mergeSort (le := fun e f : Ed => decide (e.x ≤ f.x)) (fun a b c h1 h2 => by simp at *; omega) (fun a b => by simp; omega) (edgesFrom 0 Ls)
    exact this.imp (fun h => by simpa using h)
  have hspan := fun y => (spansN_ok (K := K) hr hE' hs' y).2
  have hall : ∀ y, cuts.head? = some y → ∀ e ∈ E, y ≤ e.lo := by
    intro y hy e he
    obtain ⟨h1, _⟩ := hcuts e he
    cases cuts with
    | nil => cases hy
    | cons c cs =>
      simp at hy; subst hy
      rcases List.mem_cons.1 h1 with h | h
      · omega
      · have := (List.pairwise_cons.1 hp).1 _ h; omega
  have key := squares_sweep (K := K) (n := Ls.length) (E := E) (sp := spansN K Ls.length E') hs (fun y R hR hRs => by
    obtain ⟨k1, k2⟩ := row_spans (K := K) hr hE y hR hRs
    exact spans_unique k1 (hspan y).1 fun x => by rw [k2, (hspan y).2]) cuts [] E [] hp
    (fun y hy => ⟨⟨⟨[], rfl, fun e he => (by cases he), hall y hy, List.Perm.nil⟩, List.Pairwise.nil⟩, fun b hb => by cases hb⟩) (fun y _ e he _ => (hcuts e he).1)
  unfold sqL
  rw [key]
  have hy : ∀ l ∈ Ls, ∀ r ∈ l, r.b ∈ cuts ∧ r.h ∈ cuts := by
    intro l hl r hr
    obtain ⟨e, he, h1, h2⟩ := edgesFrom_has (k := 0) hl hr
    have := hcuts e (hE.mem_iff.2 he)
    rw [h1, h2] at this
    exact this
  have h0 : keepK K 0 = false := by simp [keepK]
  refine sweepS_for hp hspan (fun x y y' h hc => ?_) (fun x y hc => ?_) (fun x y hc => ?_)
  · rw [setOf_congr fun l hl => inside_rows h fun r hr => ⟨hc _ (hy l hl r hr).1, hc _ (hy l hl r hr).2⟩]
  · rw [setOf_none fun l hl => inside_false fun r hr => ?_, h0]
    have := hc _ (hy l hl r hr).2
    have h2 : ¬ y < r.h := by omega
    simp [insR, h2]
  · rw [setOf_none fun l hl => inside_false fun r hr => ?_, h0]
    have h2 := hc _ (hy l hl r hr).1
    simp [insR, h2]
end Go.Proofs.Ytkpmgdhaollheaa
