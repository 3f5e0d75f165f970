/- Runs of colours on a line: their form is unique; how they are built. -/
import Derived.Test.YtkpmgdhaollheaaPost
namespace Go.Proofs.Ytkpmgdhaollheaa

/-- A run: from lo up to hi, of one colour. -/
structure Run (γ : Type) where
  lo : Int
  hi : Int
  c : γ

variable {γ : Type}

def rval (d : γ) : List (Run γ) → Int → γ
  | [], _ => d
  | r :: rs, y => if r.lo ≤ y ∧ y < r.hi then r.c else rval d rs y

/-- One behind the other, and no two of one colour that touch. -/
def rch : List (Run γ) → Prop
  | [] => True
  | r :: rs => r.lo < r.hi ∧ (∀ s, rs.head? = some s → r.hi ≤ s.lo ∧ (r.hi = s.lo → r.c ≠ s.c)) ∧ rch rs

def rok (d : γ) (l : List (Run γ)) : Prop := rch l ∧ ∀ r ∈ l, r.c ≠ d

theorem rch.low : ∀ {l : List (Run γ)} {y : Int}, rch l → (∀ s, l.head? = some s → y ≤ s.lo) → ∀ s ∈ l, y ≤ s.lo
  | [], _, _, _, s, hs => by cases hs
  | r :: rs, y, h, hy, s, hs => by
    have h0 := hy r rfl
    have h1 := h.1
    rcases List.mem_cons.1 hs with rfl | hs
    · exact h0
    · exact h.2.2.low (fun t ht => by have := (h.2.1 t ht).1; omega) s hs

theorem rval_out {d : γ} : ∀ {l : List (Run γ)} {y : Int}, (∀ s ∈ l, ¬ (s.lo ≤ y ∧ y < s.hi)) → rval d l y = d
  | [], _, _ => rfl
  | r :: rs, y, h => by
    rw [rval, if_neg (h r (List.mem_cons_self ..))]
    exact rval_out fun s hs => h s (List.mem_cons_of_mem _ hs)

theorem rval_low {d : γ} {l : List (Run γ)} {y : Int} (h : rch l) (hy : ∀ s, l.head? = some s → y < s.lo) : rval d l y = d :=
  rval_out fun s hs => by
    have := h.low (y := y + 1) (fun t ht => by have := hy t ht; omega) s hs
    omega

theorem rch.tail_low {r : Run γ} {rs : List (Run γ)} (h : rch (r :: rs)) : ∀ s ∈ rs, r.hi ≤ s.lo :=
  h.2.2.low fun s hs => (h.2.1 s hs).1

/-- THE FORM IS UNIQUE. -/
theorem runs_unique {d : γ} : ∀ {l m : List (Run γ)}, rok d l → rok d m → (∀ y, rval d l y = rval d m y) → l = m
  | [], [], _, _, _ => rfl
  | [], s :: ss, _, ⟨hm, hc⟩, h => by
    have := h s.lo
    rw [rval, rval, if_pos ⟨Int.le_refl _, hm.1⟩] at this
    exact absurd this.symm (hc s (List.mem_cons_self ..))
  | r :: rs, [], ⟨hl, hc⟩, _, h => by
    have := h r.lo
    rw [rval, rval, if_pos ⟨Int.le_refl _, hl.1⟩] at this
    exact absurd this (hc r (List.mem_cons_self ..))
  | r :: rs, s :: ss, ⟨hl, hcl⟩, ⟨hm, hcm⟩, h => by
    have l1 : s.lo ≤ r.lo := by
      rcases Int.lt_or_le r.lo s.lo with hlt | hle
      · have := h r.lo
        rw [rval, if_pos ⟨Int.le_refl _, hl.1⟩, rval_low hm (fun t ht => by cases ht; exact hlt)] at this
        exact absurd this (hcl r (List.mem_cons_self ..))
      · exact hle
    have l2 : r.lo ≤ s.lo := by
      rcases Int.lt_or_le s.lo r.lo with hlt | hle
      · have := h s.lo
        rw [rval_low hl (fun t ht => by cases ht; exact hlt), rval, if_pos ⟨Int.le_refl _, hm.1⟩] at this
        exact absurd this.symm (hcm s (List.mem_cons_self ..))
      · exact hle
    have e1 : r.lo = s.lo := by omega
    have ec : r.c = s.c := by
      have := h r.lo
      rw [rval, if_pos ⟨Int.le_refl _, hl.1⟩, rval, if_pos ⟨l1, by rw [e1]; exact hm.1⟩] at this
      exact this
    have key : ∀ {a b : Run γ} {aa bs : List (Run γ)}, rch (a :: aa) → (∀ x ∈ a :: aa, x.c ≠ d) → rch (b :: bs) → a.lo = b.lo → a.c = b.c → (∀ y, rval d (a :: aa) y = rval d (b :: bs) y) → b.hi ≤ a.hi := by
      intro a b aa bs ha hca hb e ec h
      rcases Int.lt_or_le a.hi b.hi with hlt | hle
      · exfalso
        have := h a.hi
        have h1 := ha.1
        rw [rval, if_neg (by omega), rval, if_pos (by omega)] at this
        cases has : aa with
        | nil =>
          rw [has, rval, ← ec] at this
          exact hca a (List.mem_cons_self ..) this.symm
        | cons t ts =>
          rw [has] at this
          have ht := ha.2.1 t (by rw [has]; rfl)
          have hch : rch (t :: ts) := by have := ha.2.2; rwa [has] at this
          rcases Int.lt_or_le a.hi t.lo with hl' | hl'
          · rw [rval_low hch (fun u hu => by cases hu; exact hl'), ← ec] at this
            exact hca a (List.mem_cons_self ..) this.symm
          · have hh : a.hi = t.lo := by omega
            rw [rval, if_pos ⟨by omega, by have := hch.1; omega⟩] at this
            exact ht.2 hh (ec.trans this.symm)
      · exact hle
    have e2 : r.hi = s.hi := by
      have a := key hl hcl hm e1 ec h
      have b := key hm hcm hl e1.symm ec.symm (fun y => (h y).symm)
      omega
    have er : r = s := by cases r; cases s; simp_all
    subst er
    rw [runs_unique (d := d) ⟨hl.2.2, fun x hx => hcl x (List.mem_cons_of_mem _ hx)⟩ ⟨hm.2.2, fun x hx => hcm x (List.mem_cons_of_mem _ hx)⟩ fun y => ?_]
    rcases Int.lt_or_le y r.hi with hlt | hle
    · rw [rval_out (fun t ht => by have := hl.tail_low t ht; omega), rval_out (fun t ht => by have := hm.tail_low t ht; omega)]
    · have := h y
      rwa [rval, if_neg (by omega), rval, if_neg (by omega)] at this

/-- One more at the end, or the last one longer. -/
def push [DecidableEq γ] : List (Run γ) → Run γ → List (Run γ)
  | [], n => [n]
  | [r], n => if r.hi = n.lo ∧ r.c = n.c then [⟨r.lo, n.hi, r.c⟩] else [r, n]
  | r :: s :: rs, n => r :: push (s :: rs) n

theorem push_snoc [DecidableEq γ] (r n : Run γ) : ∀ l : List (Run γ), push (l ++ [r]) n = if r.hi = n.lo ∧ r.c = n.c then l ++ [⟨r.lo, n.hi, r.c⟩] else l ++ [r, n]
  | [] => rfl
  | [a] => by simp only [List.cons_append, List.nil_append, push]; split <;> rfl
  | a :: b :: l => by
    show a :: push ((b :: l) ++ [r]) n = _
    rw [push_snoc r n (b :: l)]
    split <;> rfl

theorem push_head [DecidableEq γ] (s n : Run γ) (rs : List (Run γ)) : ∀ t, (push (s :: rs) n).head? = some t → t.lo = s.lo ∧ t.c = s.c := by
  intro t ht
  cases rs with
  | nil =>
    simp only [push] at ht
    split at ht <;> simp at ht <;> subst ht <;> exact ⟨rfl, rfl⟩
  | cons u us => simp only [push, List.head?_cons, Option.some.injEq] at ht; subst ht; exact ⟨rfl, rfl⟩

theorem rch_push [DecidableEq γ] {n : Run γ} (hn : n.lo < n.hi) : ∀ {l : List (Run γ)}, rch l → (∀ s ∈ l, s.hi ≤ n.lo) → rch (push l n)
  | [], _, _ => ⟨hn, (fun s hs => by cases hs), trivial⟩
  | [r], h, hb => by
    have h1 := h.1
    have h2 := hb r (by simp)
    simp only [push]
    split
    · exact ⟨by show r.lo < n.hi; omega, (fun s hs => by cases hs), trivial⟩
    · rename_i hne
      exact ⟨h1, fun s hs => by cases hs; exact ⟨h2, fun e ec => hne ⟨e, ec⟩⟩, hn, (fun s hs => by cases hs), trivial⟩
  | r :: s :: rs, h, hb => by
    refine ⟨h.1, fun t ht => ?_, rch_push hn h.2.2 fun t ht => hb t (List.mem_cons_of_mem _ ht)⟩
    obtain ⟨e1, e2⟩ := push_head s n rs t ht
    have := h.2.1 s rfl
    rw [e1, e2]
    exact this

theorem push_hi [DecidableEq γ] {n : Run γ} (hn : n.lo < n.hi) : ∀ {l : List (Run γ)}, (∀ s ∈ l, s.hi ≤ n.lo) → ∀ s ∈ push l n, s.hi ≤ n.hi
  | [], _, s, hs => by simp [push] at hs; subst hs; exact Int.le_refl _
  | [r], hb, s, hs => by
    have := hb r (by simp)
    simp only [push] at hs
    split at hs <;> simp at hs
    · subst hs; exact Int.le_refl _
    · rcases hs with rfl | rfl <;> omega
  | r :: t :: rs, hb, s, hs => by
    simp only [push] at hs
    rcases List.mem_cons.1 hs with rfl | hs
    · have := hb s (by simp); omega
    · exact push_hi hn (fun s hs => hb s (List.mem_cons_of_mem _ hs)) s hs

theorem push_c [DecidableEq γ] {n : Run γ} {Q : γ → Prop} (hn : Q n.c) : ∀ {l : List (Run γ)}, (∀ s ∈ l, Q s.c) → ∀ s ∈ push l n, Q s.c
  | [], _, s, hs => by simp [push] at hs; subst hs; exact hn
  | [r], hb, s, hs => by
    have := hb r (by simp)
    simp only [push] at hs
    split at hs <;> simp at hs
    · subst hs; exact this
    · rcases hs with rfl | rfl
      · exact this
      · exact hn
  | r :: t :: rs, hb, s, hs => by
    simp only [push] at hs
    rcases List.mem_cons.1 hs with rfl | hs
    · exact hb s (by simp)
    · exact push_c hn (fun s hs => hb s (List.mem_cons_of_mem _ hs)) s hs

theorem rval_push [DecidableEq γ] {d : γ} {n : Run γ} (hn : n.lo < n.hi) : ∀ {l : List (Run γ)}, rch l → (∀ s ∈ l, s.hi ≤ n.lo) → ∀ y, rval d (push l n) y = if n.lo ≤ y ∧ y < n.hi then n.c else rval d l y
  | [], _, _, y => rfl
  | [r], h, hb, y => by
    have h1 := h.1
    have h2 := hb r (by simp)
    simp only [push]
    split
    · rename_i he
      simp only [rval]
      by_cases hy : n.lo ≤ y ∧ y < n.hi
      · rw [if_pos hy, if_pos (by omega)]; exact he.2
      · rw [if_neg hy]
        by_cases hr : r.lo ≤ y ∧ y < r.hi
        · rw [if_pos hr, if_pos (by omega)]
        · rw [if_neg hr, if_neg (by omega)]
    · simp only [rval]
      by_cases hy : n.lo ≤ y ∧ y < n.hi
      · rw [if_neg (by omega), if_pos hy, if_pos hy]
      · rw [if_neg hy, if_neg hy]
  | r :: s :: rs, h, hb, y => by
    have h2 := hb r (by simp)
    rw [push, rval, rval_push hn h.2.2 (fun s hs => hb s (List.mem_cons_of_mem _ hs)) y, show rval d (r :: s :: rs) y = if r.lo ≤ y ∧ y < r.hi then r.c else rval d (s :: rs) y from rfl]
    by_cases hr : r.lo ≤ y ∧ y < r.hi
    · rw [if_pos hr, if_neg (by omega), if_pos hr]
    · rw [if_neg hr, if_neg hr]

theorem push_len [DecidableEq γ] (n : Run γ) : ∀ l : List (Run γ), (push l n).length ≤ l.length + 1
  | [] => by simp [push]
  | [r] => by simp only [push]; split <;> simp
  | r :: s :: rs => by simp only [push, List.length_cons]; have := push_len n (s :: rs); simp at this; omega

/-- Without those of the ground's colour. -/
theorem rok_filter {d : γ} (p : Run γ → Bool) (hp : ∀ r, p r = true ↔ r.c ≠ d) : ∀ {l : List (Run γ)}, rch l → rok d (l.filter p) ∧ (∀ B, (∀ s ∈ l, B ≤ s.lo) → ∀ s ∈ l.filter p, B ≤ s.lo) ∧ ∀ y, rval d (l.filter p) y = rval d l y
  | [], _ => ⟨⟨trivial, fun r hr => by cases hr⟩, (fun _ _ s hs => by cases hs), fun _ => rfl⟩
  | r :: rs, h => by
    obtain ⟨h1, h2, h3⟩ := rok_filter p hp h.2.2
    refine ⟨⟨?_, fun s hs => (hp s).1 (List.mem_filter.1 hs).2⟩, fun B hB s hs => hB s (List.mem_filter.1 hs).1, fun y => ?_⟩
    · by_cases hr : p r = true
      · rw [List.filter_cons_of_pos hr]
        refine ⟨h.1, fun s hs => ?_, h1.1⟩
        have hmem : s ∈ rs.filter p := List.mem_of_mem_head? hs
        cases rs with
        | nil => simp at hmem
        | cons t ts =>
          have ht := h.2.1 t rfl
          by_cases hpt : p t = true
          · rw [List.filter_cons_of_pos hpt] at hs
            cases hs
            exact ht
          · rw [List.filter_cons_of_neg hpt] at hmem
            have := h.2.2.tail_low s (List.mem_filter.1 hmem).1
            have := h.2.2.1
            exact ⟨by omega, fun e => by omega⟩
      · rw [List.filter_cons_of_neg hr]
        exact h1.1
    · by_cases hr : p r = true
      · rw [List.filter_cons_of_pos hr, rval, rval, h3]
      · rw [List.filter_cons_of_neg hr, h3, rval]
        have hd : r.c = d := by
          by_cases e : r.c = d
          · exact e
          · exact absurd ((hp r).2 e) hr
        split
        · rw [hd]
          exact rval_out fun s hs => by have := h.tail_low s hs; omega
        · rfl

/-- The colours between cuts. -/
def cellv (d : γ) (sp : Int → γ) : List Int → Int → γ
  | y0 :: y1 :: ys, y => if y0 ≤ y ∧ y < y1 then sp y0 else cellv d sp (y1 :: ys) y
  | _, _ => d

/-- Between two cuts nothing turns. -/
theorem cellv_eq {d : γ} {sp f : Int → γ} : ∀ (ys : List Int), ys.Pairwise (· < ·) → (∀ y ∈ ys, sp y = f y) → (∀ y y', y ≤ y' → (∀ c ∈ ys, ¬ (y < c ∧ c ≤ y')) → (∃ c ∈ ys, c ≤ y) → f y = f y') → (∀ y, (∀ c ∈ ys, c ≤ y) → f y = d) → ∀ y, (∃ c ∈ ys, c ≤ y) → cellv d sp ys y = f y
  | [], _, _, _, _, y, ⟨c, hc, _⟩ => by cases hc
  | [y0], _, _, _, h4, y, ⟨c, hc, hy⟩ => by
    simp at hc
    subst hc
    exact (h4 y fun c hc => by simp at hc; subst hc; exact hy).symm
  | y0 :: y1 :: ys, hp, h2, h3, h4, y, ⟨c, hc, hy⟩ => by
    have hp' := List.pairwise_cons.1 hp
    rw [cellv]
    have h0 : y0 ≤ y := by
      rcases List.mem_cons.1 hc with rfl | hc
      · exact hy
      · have := hp'.1 c hc; omega
    split
    · rename_i hin
      rw [h2 y0 (by simp)]
      refine h3 y0 y h0 (fun c hc => ?_) ⟨y0, by simp, Int.le_refl _⟩
      rcases List.mem_cons.1 hc with rfl | hc
      · omega
      · rcases List.mem_cons.1 hc with rfl | hc
        · omega
        · have := (List.pairwise_cons.1 hp'.2).1 c hc; omega
    · rename_i hin
      refine cellv_eq (y1 :: ys) hp'.2 (fun y hy => h2 y (List.mem_cons_of_mem _ hy)) (fun a b hab hc hex => h3 a b hab (fun c hc' => ?_) ?_) (fun a ha => h4 a fun c hc => ?_) y ⟨y1, by simp, by omega⟩
      · obtain ⟨e, he, hea⟩ := hex
        rcases List.mem_cons.1 hc' with rfl | hc'
        · have := hp'.1 e he; omega
        · exact hc c hc'
      · obtain ⟨e, he, hea⟩ := hex
        exact ⟨e, List.mem_cons_of_mem _ he, hea⟩
      · rcases List.mem_cons.1 hc with rfl | hc
        · have := ha y1 (by simp); have := hp'.1 y1 (by simp); omega
        · exact ha c hc

/-- The pieces between cuts, one after another; those of the ground's colour are kept (code) or left out (reference). -/
def sweep [DecidableEq γ] (sp : Int → γ) : List (Run γ) → List Int → List (Run γ)
  | acc, y0 :: y1 :: ys => sweep sp (push acc ⟨y0, y1, sp y0⟩) (y1 :: ys)
  | acc, _ => acc

def sweepS [DecidableEq γ] (d : γ) (sp : Int → γ) : List (Run γ) → List Int → List (Run γ)
  | acc, y0 :: y1 :: ys => sweepS d sp (if sp y0 = d then acc else push acc ⟨y0, y1, sp y0⟩) (y1 :: ys)
  | acc, _ => acc

theorem sweep_ok [DecidableEq γ] {d : γ} {sp : Int → γ} : ∀ (ys : List Int) (acc : List (Run γ)), ys.Pairwise (· < ·) → rch acc → (∀ y, ys.head? = some y → ∀ s ∈ acc, s.hi ≤ y) →
    rch (sweep sp acc ys) ∧ ∀ y, rval d (sweep sp acc ys) y = if (∃ c ∈ ys, c ≤ y) then cellv d sp ys y else rval d acc y
  | [], acc, _, h, _ => ⟨h, fun y => by simp [sweep]⟩
  | [y0], acc, _, h, hb => ⟨h, fun y => by
    simp only [sweep, cellv]
    split
    · rename_i hc
      obtain ⟨c, hc, hy⟩ := hc
      simp at hc
      subst hc
      exact rval_out fun s hs => by have := hb c rfl s hs; omega
    · rfl⟩
  | y0 :: y1 :: ys, acc, hp, h, hb => by
    have hp' := List.pairwise_cons.1 hp
    have hlt : y0 < y1 := hp'.1 y1 (by simp)
    have hb0 := hb y0 rfl
    have hn : (⟨y0, y1, sp y0⟩ : Run γ).lo < (⟨y0, y1, sp y0⟩ : Run γ).hi := hlt
    obtain ⟨g1, g2⟩ := sweep_ok (d := d) (sp := sp) (y1 :: ys) (push acc ⟨y0, y1, sp y0⟩) hp'.2 (rch_push hn h hb0) (fun y hy s hs => by cases hy; exact push_hi hn hb0 s hs)
    refine ⟨g1, fun y => ?_⟩
    rw [sweep, g2, rval_push hn h hb0, cellv]
    by_cases hy1 : ∃ c ∈ y1 :: ys, c ≤ y
    · rw [if_pos hy1]
      obtain ⟨c, hc, hcy⟩ := hy1
      have : y1 ≤ y := by
        rcases List.mem_cons.1 hc with rfl | hc
        · exact hcy
        · have := (List.pairwise_cons.1 hp'.2).1 c hc; omega
      rw [if_pos ⟨c, List.mem_cons_of_mem _ hc, hcy⟩, if_neg (by omega)]
    · rw [if_neg hy1]
      have h1 : y < y1 := by
        rcases Int.lt_or_le y y1 with h | h
        · exact h
        · exact absurd ⟨y1, by simp, h⟩ hy1
      by_cases h0 : y0 ≤ y
      · simp only [show (y0 ≤ y ∧ y < y1) = True from eq_true ⟨h0, h1⟩, if_true]
        rw [if_pos ⟨y0, by simp, h0⟩]
      · rw [if_neg (show ¬ (y0 ≤ y ∧ y < y1) from fun h => h0 h.1), if_neg]
        rintro ⟨c, hc, hcy⟩
        rcases List.mem_cons.1 hc with rfl | hc
        · exact h0 hcy
        · exact hy1 ⟨c, hc, hcy⟩

theorem sweepS_ok [DecidableEq γ] {d : γ} {sp : Int → γ} : ∀ (ys : List Int) (acc : List (Run γ)), ys.Pairwise (· < ·) → rok d acc → (∀ y, ys.head? = some y → ∀ s ∈ acc, s.hi ≤ y) →
    rok d (sweepS d sp acc ys) ∧ ∀ y, rval d (sweepS d sp acc ys) y = if (∃ c ∈ ys, c ≤ y) then cellv d sp ys y else rval d acc y
  | [], acc, _, h, _ => ⟨h, fun y => by simp [sweepS]⟩
  | [y0], acc, _, h, hb => ⟨h, fun y => by
    simp only [sweepS, cellv]
    split
    · rename_i hc
      obtain ⟨c, hc, hy⟩ := hc
      simp at hc
      subst hc
      exact rval_out fun s hs => by have := hb c rfl s hs; omega
    · rfl⟩
  | y0 :: y1 :: ys, acc, hp, h, hb => by
    have hp' := List.pairwise_cons.1 hp
    have hlt : y0 < y1 := hp'.1 y1 (by simp)
    have hb0 := hb y0 rfl
    have hn : (⟨y0, y1, sp y0⟩ : Run γ).lo < (⟨y0, y1, sp y0⟩ : Run γ).hi := hlt
    by_cases hd : sp y0 = d
    · rw [sweepS, if_pos hd]
      obtain ⟨g1, g2⟩ := sweepS_ok (d := d) (sp := sp) (y1 :: ys) acc hp'.2 h (fun y hy s hs => by cases hy; have := hb0 s hs; omega)
      refine ⟨g1, fun y => ?_⟩
      rw [g2, cellv]
      by_cases hy1 : ∃ c ∈ y1 :: ys, c ≤ y
      · rw [if_pos hy1]
        obtain ⟨c, hc, hcy⟩ := hy1
        have : y1 ≤ y := by
          rcases List.mem_cons.1 hc with rfl | hc
          · exact hcy
          · have := (List.pairwise_cons.1 hp'.2).1 c hc; omega
        rw [if_pos ⟨c, List.mem_cons_of_mem _ hc, hcy⟩, if_neg (by omega)]
      · rw [if_neg hy1]
        have h1 : y < y1 := by
          rcases Int.lt_or_le y y1 with h | h
          · exact h
          · exact absurd ⟨y1, by simp, h⟩ hy1
        by_cases h0 : y0 ≤ y
        · rw [if_pos ⟨y0, by simp, h0⟩, if_pos ⟨h0, h1⟩, hd]
          exact rval_out fun s hs => by have := hb0 s hs; omega
        · rw [if_neg]
          rintro ⟨c, hc, hcy⟩
          rcases List.mem_cons.1 hc with rfl | hc
          · exact h0 hcy
          · exact hy1 ⟨c, hc, hcy⟩
    · rw [sweepS, if_neg hd]
      obtain ⟨g1, g2⟩ := sweepS_ok (d := d) (sp := sp) (y1 :: ys) (push acc ⟨y0, y1, sp y0⟩) hp'.2 ⟨rch_push hn h.1 hb0, push_c (Q := (· ≠ d)) hd h.2⟩ (fun y hy s hs => by cases hy; exact push_hi hn hb0 s hs)
      refine ⟨g1, fun y => ?_⟩
      rw [g2, rval_push hn h.1 hb0, cellv]
      by_cases hy1 : ∃ c ∈ y1 :: ys, c ≤ y
      · rw [if_pos hy1]
        obtain ⟨c, hc, hcy⟩ := hy1
        have : y1 ≤ y := by
          rcases List.mem_cons.1 hc with rfl | hc
          · exact hcy
          · have := (List.pairwise_cons.1 hp'.2).1 c hc; omega
        rw [if_pos ⟨c, List.mem_cons_of_mem _ hc, hcy⟩, if_neg (by omega)]
      · rw [if_neg hy1]
        have h1 : y < y1 := by
          rcases Int.lt_or_le y y1 with h | h
          · exact h
          · exact absurd ⟨y1, by simp, h⟩ hy1
        by_cases h0 : y0 ≤ y
        · simp only [show (y0 ≤ y ∧ y < y1) = True from eq_true ⟨h0, h1⟩, if_true]
          rw [if_pos ⟨y0, by simp, h0⟩]
        · rw [if_neg (show ¬ (y0 ≤ y ∧ y < y1) from fun h => h0 h.1), if_neg]
          rintro ⟨c, hc, hcy⟩
          rcases List.mem_cons.1 hc with rfl | hc
          · exact h0 hcy
          · exact hy1 ⟨c, hc, hcy⟩
end Go.Proofs.Ytkpmgdhaollheaa
