/- The sweep over the edges of any number of lists: it gives the canonical form. -/
import Derived.Test.YtkpmgdhaollheaaGEdge
namespace Go.Proofs.Ytkpmgdhaollheaa

/-- A set of lists as a number: bit i stands for list i. -/
def maskN : List Bool → Nat
  | [] => 0
  | b :: bs => b.toNat + 2 * maskN bs
def maskC (c : List Int) : Int := (maskN (c.map fun v => decide (0 < v)) : Nat)

theorem maskN_lt : ∀ bs : List Bool, maskN bs < 2 ^ bs.length
  | [] => by simp [maskN]
  | b :: bs => by
    have ih := maskN_lt bs
    have hb : b.toNat ≤ 1 := by cases b <;> simp
    simp only [maskN, List.length_cons, Nat.pow_succ]
    omega
theorem maskN_none : ∀ {bs : List Bool}, (∀ b ∈ bs, b = false) → maskN bs = 0
  | [], _ => rfl
  | b :: bs, h => by
    have h0 := h b (by simp)
    subst h0
    simp [maskN, maskN_none fun b hb => h b (List.mem_cons_of_mem _ hb)]

theorem testBit_mask : ∀ (bs : List Bool) (i : Nat), (maskN bs).testBit i = bs.getD i false
  | [], i => by simp [maskN]
  | b :: bs, 0 => by cases b <;> simp [maskN, Nat.testBit_zero, Nat.add_mod]
  | b :: bs, i + 1 => by
    have ih := testBit_mask bs i
    have e : (maskN (b :: bs)) / 2 = maskN bs := by cases b <;> simp [maskN] <;> omega
    rw [Nat.testBit_succ, e, ih]
    simp

structure SpN where
  sp : List Sp
  c : List Int
  x : Int

def bump (c : List Int) (j : Nat) (m : Int) : List Int := c.set j (c[j]! + m)
theorem bump_len (c : List Int) (j : Nat) (m : Int) : (bump c j m).length = c.length := by simp [bump]
theorem bump_get {c : List Int} {j i : Nat} {m : Int} (hi : i < c.length) : (bump c j m)[i]! = if i = j then c[j]! + m else c[i]! := by
  unfold bump
  rw [getElem!_pos _ _ (by simpa using hi), List.getElem_set, getElem!_pos c i hi]
  by_cases h : j = i
  · subst h; simp
  · rw [if_neg h, if_neg (fun e => h e.symm)]

def spStepN (K : Int → Bool) (y : Int) (s : SpN) (e : Ed) : SpN :=
  if y < e.lo ∨ e.hi ≤ y then s
  else ⟨if s.x < e.x ∧ maskC s.c ≠ 0 ∧ K (maskC s.c) = true then pushS s.sp (s.x, e.x) else s.sp, bump s.c e.list.toNat e.more, e.x⟩
def spansStN (K : Int → Bool) (n : Nat) (y : Int) (E : List Ed) : SpN := E.foldl (spStepN K y) ⟨[], List.replicate n 0, 0⟩
def spansN (K : Int → Bool) (n : Nat) (E : List Ed) (y : Int) : List Sp := (spansStN K n y E).sp

/-- What is kept: never what no list has. -/
def keepK (K : Int → Bool) (m : Int) : Bool := decide (m ≠ 0) && K m
def covN (n : Nat) (y x : Int) (E : List Ed) : List Int := (List.range n).map fun (j : Nat) => wsum (wt (j : Int) y (left0 x)) E

theorem covN_eq {n : Nat} {y x : Int} {E : List Ed} {c : List Int} (hl : c.length = n) (h : ∀ j : Nat, j < n → wsum (wt (j : Int) y (left0 x)) E = c[j]!) : covN n y x E = c := by
  apply List.ext_getElem
  · simp [covN, hl]
  · intro i h1 h2
    have hi : i < n := by simpa [covN] using h1
    simp only [covN, List.getElem_map, List.getElem_range]
    rw [h i hi, getElem!_pos c i h2]

theorem mask_zero {c : List Int} (h : ∀ v ∈ c, v = 0) : maskC c = 0 := by
  unfold maskC
  rw [maskN_none]
  · rfl
  · intro b hb
    obtain ⟨v, hv, rfl⟩ := List.mem_map.1 hb
    rw [h v hv]; rfl

structure SpInvN (K : Int → Bool) (n : Nat) (y : Int) (E P Q : List Ed) (X : Int) (s : SpN) : Prop where
  len : s.c.length = n
  c : ∀ j : Nat, j < n → s.c[j]! = wsum (wt (j : Int) y fun _ => true) P
  xx : s.x = X ∨ maskC s.c = 0
  left : ∀ e ∈ P, act y e = true → e.x ≤ X
  right : ∀ e ∈ Q, X ≤ e.x
  ok : sok s.sp
  hi : ∀ p ∈ runs s.sp, p.hi ≤ X
  val : ∀ x, sval s.sp x = (decide (x < X) && keepK K (maskC (covN n y x E)))

theorem sp_invN {K : Int → Bool} {n : Nat} {y : Int} {E : List Ed} (hl : ∀ e ∈ E, 0 ≤ e.list ∧ e.list < n) (hs : E.Pairwise fun e f => e.x ≤ f.x) : ∀ (Q P : List Ed) (X : Int) (s : SpN), E = P ++ Q → SpInvN K n y E P Q X s → ∃ X', SpInvN K n y E E [] X' (Q.foldl (spStepN K y) s)
  | [], P, X, s, hE, h => by
    rw [List.append_nil] at hE
    subst hE
    exact ⟨X, h⟩
  | e :: Q, P, X, s, hE, h => by
    have hE' : E = (P ++ [e]) ++ Q := by rw [hE]; simp
    have hmem : e ∈ E := by rw [hE]; simp
    have hQ : ∀ f ∈ Q, e.x ≤ f.x := by
      rw [hE] at hs
      exact (List.pairwise_cons.1 (List.pairwise_append.1 hs).2.1).1
    have hx := h.right e (by simp)
    by_cases ha : y < e.lo ∨ e.hi ≤ y
    · have hna : act y e = false := by
        simp only [act]
        rcases ha with ha | ha
        · have : ¬ e.lo ≤ y := by omega
          simp [this]
        · have : ¬ y < e.hi := by omega
          simp [this]
      have hw : ∀ j q, wt j y q e = 0 := fun j q => by simp [wt, hna]
      have hst : spStepN K y s e = s := by simp [spStepN, ha]
      rw [List.foldl_cons, hst]
      refine sp_invN hl hs Q (P ++ [e]) X s hE' ⟨h.len, fun j hj => ?_, h.xx, fun f hf hfa => ?_, fun f hf => h.right f (List.mem_cons_of_mem _ hf), h.ok, h.hi, h.val⟩
      · rw [wsum_append, ← h.c j hj]; simp [wsum, hw]
      · rcases List.mem_append.1 hf with hf | hf
        · exact h.left f hf hfa
        · simp at hf; subst hf; rw [hna] at hfa; cases hfa
    · have hact : act y e = true := by
        simp only [act]
        have h1 : e.lo ≤ y := by omega
        have h2 : y < e.hi := by omega
        simp [h1, h2]
      obtain ⟨hl0, hl1⟩ := hl e hmem
      obtain ⟨jj, hjj⟩ : ∃ jj : Nat, e.list = jj := ⟨e.list.toNat, by omega⟩
      have hsp : (if s.x < e.x ∧ maskC s.c ≠ 0 ∧ K (maskC s.c) = true then pushS s.sp (s.x, e.x) else s.sp) = if X < e.x ∧ keepK K (maskC s.c) = true then pushS s.sp (X, e.x) else s.sp := by
        rcases h.xx with hx' | hx'
        · rw [hx']
          by_cases h0 : maskC s.c = 0
          · rw [if_neg (by intro hh; exact hh.2.1 h0), if_neg (by intro hh; simp [keepK, h0] at hh)]
          · have : keepK K (maskC s.c) = K (maskC s.c) := by simp [keepK, h0]
            rw [this]
            by_cases h1 : X < e.x ∧ K (maskC s.c) = true
            · rw [if_pos h1, if_pos ⟨h1.1, h0, h1.2⟩]
            · rw [if_neg h1, if_neg (fun hh => h1 ⟨hh.1, hh.2.2⟩)]
        · rw [if_neg (by intro hh; exact hh.2.1 hx'), if_neg (by intro hh; simp [keepK, hx'] at hh)]
      have hst : spStepN K y s e = ⟨if X < e.x ∧ keepK K (maskC s.c) = true then pushS s.sp (X, e.x) else s.sp, bump s.c jj e.more, e.x⟩ := by
        simp only [spStepN]
        rw [if_neg ha, hsp, hjj]
        rfl
      have hcount : ∀ j x, X ≤ x → x < e.x → wsum (wt j y (left0 x)) E = wsum (wt j y fun _ => true) P := by
        intro j x h1 h2
        rw [hE, wsum_append, wsum_zero (E := e :: Q), Int.add_zero]
        · refine wsum_congr fun f hf => ?_
          simp only [wt]
          by_cases hfa : act y f = true
          · have := h.left f hf hfa
            have h3 : f.x ≤ x := by omega
            simp [left0, h3]
          · simp [hfa]
        · intro f hf
          have h3 : ¬ f.x ≤ x := by
            rcases List.mem_cons.1 hf with rfl | hf
            · omega
            · have := hQ f hf; omega
          simp [wt, left0, h3]
      rw [List.foldl_cons, hst]
      refine sp_invN hl hs Q (P ++ [e]) e.x _ hE' ⟨by rw [bump_len]; exact h.len, fun j hj => ?_, .inl rfl, fun f hf hfa => ?_, fun f hf => hQ f hf, ?_, ?_, fun x => ?_⟩
      · rw [bump_get (by rw [h.len]; exact hj), wsum_append, ← h.c j hj]
        by_cases hjj' : j = jj
        · subst hjj'
          rw [if_pos rfl]
          simp [wsum, wt, hjj, hact]
        · rw [if_neg hjj']
          have : ¬ (e.list = (j : Int)) := by omega
          simp [wsum, wt, this]
      · rcases List.mem_append.1 hf with hf | hf
        · have := h.left f hf hfa
          omega
        · simp at hf; subst hf; exact Int.le_refl _
      · show sok (if X < e.x ∧ keepK K (maskC s.c) = true then pushS s.sp (X, e.x) else s.sp)
        split
        · rename_i hc
          unfold sok
          rw [runs_pushS]
          exact rch_push hc.1 h.ok h.hi
        · exact h.ok
      · show ∀ p ∈ runs (if X < e.x ∧ keepK K (maskC s.c) = true then pushS s.sp (X, e.x) else s.sp), p.hi ≤ e.x
        split
        · rename_i hc
          rw [runs_pushS]
          exact push_hi (n := ⟨X, e.x, true⟩) hc.1 h.hi
        · intro p hp
          have := h.hi p hp
          omega
      · show sval (if X < e.x ∧ keepK K (maskC s.c) = true then pushS s.sp (X, e.x) else s.sp) x = (decide (x < e.x) && _)
        by_cases hxe : x < e.x
        · by_cases hxs : x < X
          · have hv := h.val x
            simp only [hxs, decide_true, Bool.true_and] at hv
            simp only [hxe, decide_true, Bool.true_and]
            split
            · rename_i hc
              unfold sval
              rw [runs_pushS, rval_push hc.1 h.ok h.hi, if_neg (by simp; omega)]
              exact hv
            · exact hv
          · have hv := h.val x
            simp only [hxs, decide_false, Bool.false_and] at hv
            simp only [hxe, decide_true, Bool.true_and]
            rw [covN_eq h.len fun j hj => by rw [hcount j x (by omega) hxe, h.c j hj]]
            split
            · rename_i hc
              unfold sval
              rw [runs_pushS, rval_push hc.1 h.ok h.hi, if_pos ⟨by simp; omega, hxe⟩]
              exact hc.2.symm
            · rename_i hc
              rw [hv]
              have hsx : X < e.x := by omega
              have : ¬ keepK K (maskC s.c) = true := fun hk => hc ⟨hsx, hk⟩
              simpa using this
        · have hv := h.val x
          have hxs : ¬ x < X := by omega
          simp only [hxs, decide_false, Bool.false_and] at hv
          simp only [hxe, decide_false, Bool.false_and]
          split
          · rename_i hc
            unfold sval
            rw [runs_pushS, rval_push hc.1 h.ok h.hi, if_neg (by simp; omega)]
            exact hv
          · exact hv

/-- The edges of lists from number k on. -/
def edgesFrom : Nat → List (List Rc) → List Ed
  | _, [] => []
  | k, l :: Ls => edgesOf l k ++ edgesFrom (k + 1) Ls
def rowsOf (Ls : List (List Rc)) : Prop := ∀ l ∈ Ls, ∀ r ∈ l, r.l < r.r

theorem edgesFrom_mem : ∀ {Ls : List (List Rc)} {k : Nat} {e : Ed}, e ∈ edgesFrom k Ls → ((k : Int) ≤ e.list ∧ e.list < (k : Int) + Ls.length) ∧ (e.more = 1 ∨ e.more = -1) ∧ ∃ l ∈ Ls, ∃ r ∈ l, e.lo = r.b ∧ e.hi = r.h
  | [], k, e, h => by cases h
  | l :: Ls, k, e, h => by
    rcases List.mem_append.1 h with h | h
    · simp only [edgesOf, List.mem_flatMap, eds2] at h
      obtain ⟨r, hr, h⟩ := h
      simp at h
      rcases h with rfl | rfl
      · exact ⟨⟨Int.le_refl _, by simp; omega⟩, .inl rfl, l, by simp, r, hr, rfl, rfl⟩
      · exact ⟨⟨Int.le_refl _, by simp; omega⟩, .inr rfl, l, by simp, r, hr, rfl, rfl⟩
    · obtain ⟨⟨h1, h2⟩, h3, l', hl', h4⟩ := edgesFrom_mem h
      refine ⟨⟨by omega, by simp; omega⟩, h3, l', by simp [hl'], h4⟩
theorem edgesFrom_has : ∀ {Ls : List (List Rc)} {k : Nat} {l : List Rc} {r : Rc}, l ∈ Ls → r ∈ l → ∃ e ∈ edgesFrom k Ls, e.lo = r.b ∧ e.hi = r.h
  | [], _, _, _, h, _ => by cases h
  | m :: Ls, k, l, r, h, hr => by
    rcases List.mem_cons.1 h with rfl | h
    · exact ⟨⟨r.l, r.b, r.h, k, 1⟩, List.mem_append_left _ (List.mem_flatMap.2 ⟨r, hr, by simp [eds2]⟩), rfl, rfl⟩
    · obtain ⟨e, he, h2⟩ := edgesFrom_has (k := k + 1) h hr
      exact ⟨e, List.mem_append_right _ he, h2⟩

theorem wt_from_none {j : Nat} {y x : Int} : ∀ {Ls : List (List Rc)} {k : Nat}, rowsOf Ls → j < k → wsum (wt (j : Int) y (left0 x)) (edgesFrom k Ls) = 0
  | [], _, _, _ => rfl
  | l :: Ls, k, h, hj => by
    show wsum _ (edgesOf l k ++ edgesFrom (k + 1) Ls) = 0
    rw [wsum_append, wt_other (by omega) (h l (by simp)), wt_from_none (fun l hl => h l (List.mem_cons_of_mem _ hl)) (by omega)]; rfl
theorem wt_from {j : Nat} {y x : Int} : ∀ {Ls : List (List Rc)} {k : Nat}, rowsOf Ls → k ≤ j → j < k + Ls.length → decide (0 < wsum (wt (j : Int) y (left0 x)) (edgesFrom k Ls)) = insideB Ls[j - k]! x y
  | [], k, _, h1, h2 => by simp at h2; omega
  | l :: Ls, k, h, h1, h2 => by
    show decide (0 < wsum _ (edgesOf l k ++ edgesFrom (k + 1) Ls)) = _
    rw [wsum_append]
    rcases Nat.lt_or_ge k j with hk | hk
    · rw [wt_other (by omega) (h l (by simp)), Int.zero_add, wt_from (k := k + 1) (fun l hl => h l (List.mem_cons_of_mem _ hl)) hk (by simp at h2; omega)]
      have e : j - k = (j - (k + 1)) + 1 := by omega
      rw [e]
      rfl
    · obtain rfl : k = j := by omega
      rw [wt_from_none (fun l hl => h l (List.mem_cons_of_mem _ hl)) (by omega), Int.add_zero, Nat.sub_self, Bool.eq_iff_iff, decide_eq_true_iff]
      exact (wt_same (h l (by simp))).2
theorem wt_all_from (j : Int) (y : Int) : ∀ (Ls : List (List Rc)) (k : Nat), wsum (wt j y fun _ => true) (edgesFrom k Ls) = 0
  | [], _ => rfl
  | l :: Ls, k => by
    show wsum _ (edgesOf l k ++ edgesFrom (k + 1) Ls) = 0
    rw [wsum_append, wt_all, wt_all_from]; rfl

/-- The set of the lists that have a square. -/
def setOf (Ls : List (List Rc)) (x y : Int) : Int := (maskN (Ls.map fun l => insideB l x y) : Nat)

theorem mask_cov {Ls : List (List Rc)} {E : List Ed} (hr : rowsOf Ls) (hE : E.Perm (edgesFrom 0 Ls)) (x y : Int) : maskC (covN Ls.length y x E) = setOf Ls x y := by
  unfold maskC setOf
  congr 2
  apply List.ext_getElem
  · simp [covN]
  · intro i h1 h2
    have hi : i < Ls.length := by simpa [covN] using h1
    simp only [covN, List.getElem_map, List.getElem_range]
    rw [wsum_perm _ hE, wt_from hr (Nat.zero_le _) (by omega), Nat.sub_zero, getElem!_pos Ls i hi]

theorem replicate_eq {c : List Int} {n : Nat} (hl : c.length = n) (h : ∀ j : Nat, j < n → c[j]! = 0) : c = List.replicate n 0 := by
  apply List.ext_getElem
  · simp [hl]
  · intro i h1 h2
    have := h i (by omega)
    rw [getElem!_pos c i h1] at this
    simp [this]

/-- The spans of a row are those of the set, and the counts end as they began. -/
theorem spansN_ok {K : Int → Bool} {Ls : List (List Rc)} {E : List Ed} (hr : rowsOf Ls) (hE : E.Perm (edgesFrom 0 Ls)) (hs : E.Pairwise fun e f => e.x ≤ f.x) (y : Int) :
    (spansStN K Ls.length y E).c = List.replicate Ls.length 0 ∧ sok (spansN K Ls.length E y) ∧ ∀ x, sval (spansN K Ls.length E y) x = keepK K (setOf Ls x y) := by
  have hmem : ∀ e ∈ E, 0 ≤ e.list ∧ e.list < (Ls.length : Int) := by
    intro e he
    have := (edgesFrom_mem (hE.mem_iff.1 he)).1
    simpa using this
  obtain ⟨X0, hX0⟩ : ∃ X0 : Int, ∀ e ∈ E, X0 ≤ e.x := by
    clear hE hs hmem
    induction E with
    | nil => exact ⟨0, fun e he => by cases he⟩
    | cons e E ih =>
      obtain ⟨X, hX⟩ := ih
      refine ⟨min X e.x, fun f hf => ?_⟩
      rcases List.mem_cons.1 hf with rfl | hf
      · omega
      · have := hX f hf; omega
  have hzero : ∀ x, (∀ j : Nat, j < Ls.length → wsum (wt (j : Int) y (left0 x)) E = 0) → keepK K (maskC (covN Ls.length y x E)) = false := by
    intro x h
    rw [mask_zero (c := covN Ls.length y x E)]
    · simp [keepK]
    · intro v hv
      obtain ⟨j, hj, rfl⟩ := List.mem_map.1 hv
      exact h j (List.mem_range.1 hj)
  have h' := sp_invN (K := K) (y := y) hmem hs E [] X0 ⟨[], List.replicate Ls.length 0, 0⟩ rfl ⟨by simp, fun j hj => by rw [getElem!_pos _ _ (by simpa using hj)]; simp [wsum], .inr (mask_zero fun v hv => (List.mem_replicate.1 hv).2), (fun e he => by cases he), hX0, trivial, (fun p hp => by cases hp), fun x => ?_⟩
  · obtain ⟨X, h⟩ := h'
    have hT : ∀ j : Int, wsum (wt j y fun _ => true) E = 0 := fun j => by rw [wsum_perm _ hE, wt_all_from]
    refine ⟨replicate_eq h.len fun j hj => by rw [show spansStN K Ls.length y E = E.foldl (spStepN K y) ⟨[], List.replicate Ls.length 0, 0⟩ from rfl, h.c j hj]; exact hT j, h.ok, fun x => ?_⟩
    show sval (spansStN K Ls.length y E).sp x = _
    rw [show spansStN K Ls.length y E = E.foldl (spStepN K y) ⟨[], List.replicate Ls.length 0, 0⟩ from rfl, h.val, ← mask_cov hr hE]
    by_cases hx : x < X
    · simp only [hx, decide_true, Bool.true_and]
    · simp only [hx, decide_false, Bool.false_and]
      refine (hzero x fun j hj => ?_).symm
      rw [← hT j]
      refine wsum_congr fun f hf => ?_
      simp only [wt]
      by_cases hfa : act y f = true
      · have := h.left f hf hfa
        have h3 : f.x ≤ x := by omega
        simp [left0, h3]
      · simp [hfa]
  · show false = _
    by_cases hx : x < X0
    · rw [hzero x fun j hj => wsum_zero fun e he => by
        have := hX0 e he
        have h3 : ¬ e.x ≤ x := by omega
        simp [wt, left0, h3]]
      simp
    · simp [hx]

/-- WHAT THE CODE COMPUTES. -/
def chooseN (K : Int → Bool) (n : Nat) (E : List Ed) (cuts : List Int) : List Rc := flat (sweep (spansN K n E) [] cuts)

theorem setOf_congr {Ls : List (List Rc)} {x y x' y' : Int} (h : ∀ l ∈ Ls, insideB l x y = insideB l x' y') : setOf Ls x y = setOf Ls x' y' := by
  unfold setOf
  rw [List.map_congr_left h]
theorem setOf_none {Ls : List (List Rc)} {x y : Int} (h : ∀ l ∈ Ls, insideB l x y = false) : setOf Ls x y = 0 := by
  unfold setOf
  rw [maskN_none]
  · rfl
  · intro b hb
    obtain ⟨l, hl, rfl⟩ := List.mem_map.1 hb
    exact h l hl

theorem chooseN_for {K : Int → Bool} {Ls : List (List Rc)} {E : List Ed} {cuts : List Int} (hr : rowsOf Ls) (hE : E.Perm (edgesFrom 0 Ls)) (hs : E.Pairwise fun e f => e.x ≤ f.x)
    (hp : cuts.Pairwise (· < ·)) (hcuts : ∀ e ∈ E, e.lo ∈ cuts ∧ e.hi ∈ cuts) : CanonFor (fun x y => keepK K (setOf Ls x y)) (chooseN K Ls.length E cuts) := by
  have hy : ∀ l ∈ Ls, ∀ r ∈ l, r.b ∈ cuts ∧ r.h ∈ cuts := by
    intro l hl r hr
    obtain ⟨e, he, h1, h2⟩ := edgesFrom_has (k := 0) hl hr
    have := hcuts e (hE.mem_iff.2 he)
    rw [h1, h2] at this
    exact this
  have h0 : keepK K 0 = false := by simp [keepK]
  refine sweep_for hp (fun y => (spansN_ok hr hE hs y).2) (fun x y y' h hc => ?_) (fun x y hc => ?_) (fun x y hc => ?_)
  · rw [setOf_congr fun l hl => inside_rows h fun r hr => ⟨hc _ (hy l hl r hr).1, hc _ (hy l hl r hr).2⟩]
  · rw [setOf_none fun l hl => inside_false fun r hr => ?_, h0]
    have := hc _ (hy l hl r hr).2
    have h2 : ¬ y < r.h := by omega
    simp [insR, h2]
  · rw [setOf_none fun l hl => inside_false fun r hr => ?_, h0]
    have h2 := hc _ (hy l hl r hr).1
    simp [insR, h2]
end Go.Proofs.Ytkpmgdhaollheaa
