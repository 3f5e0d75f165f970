/- Lines that were written are read as they were: the lists. -/
import Derived.Test.YtainjdmgncicmaaDoorWK
namespace Go.Proofs.YtainjdmgncicmaaDoor

theorem isSp_32 : Lib.isSp 32 = true := by decide
theorem isSp_10 : Lib.isSp 10 = true := by decide

/-- No white space. -/
def Solid (x : List UInt8) : Prop := x ≠ [] ∧ ∀ c ∈ x, Lib.isSp c = false
/-- White space alone. -/
def Blank (t : List UInt8) : Prop := ∀ c ∈ t, Lib.isSp c = true

theorem go_solid : ∀ (x cur l : List UInt8), (∀ c ∈ x, Lib.isSp c = false) → Lib.fieldsGo cur (x ++ l) = Lib.fieldsGo (cur ++ x) l := by
  intro x
  induction x with
  | nil => intro cur l _; simp
  | cons c r ih =>
    intro cur l h
    rw [List.cons_append, Lib.fieldsGo_more _ _ _ (h c (by simp)), ih _ _ (fun d hd => h d (by simp [hd]))]
    simp

theorem go_blank : ∀ (t l : List UInt8), Blank t → Lib.fieldsGo [] (t ++ l) = Lib.fieldsGo [] l := by
  intro t
  induction t with
  | nil => intro l _; rfl
  | cons c r ih =>
    intro l h
    rw [List.cons_append, Lib.fieldsGo_sp _ _ (h c (by simp)), ih l (fun d hd => h d (by simp [hd]))]

/-- A word, white space behind it. -/
theorem go_word (x t l : List UInt8) (hx : Solid x) (ht : Blank t) (hn : t ≠ []) : Lib.fieldsGo [] (x ++ (t ++ l)) = x :: Lib.fieldsGo [] l := by
  rw [go_solid x [] _ hx.2, List.nil_append]
  cases t with
  | nil => exact absurd rfl hn
  | cons c r =>
    rw [List.cons_append, Lib.fieldsGo_end _ _ _ (ht c (by simp)) hx.1, go_blank r l (fun d hd => ht d (by simp [hd]))]

/-- The last word. -/
theorem go_last (x t : List UInt8) (hx : Solid x) (ht : Blank t) : Lib.fieldsGo [] (x ++ t) = [x] := by
  cases t with
  | nil =>
    rw [go_solid x [] [] hx.2, List.nil_append, Lib.fieldsGo]
    have := hx.1
    cases x with
    | nil => exact absurd rfl this
    | cons c r => rfl
  | cons c r =>
    have h := go_word x (c :: r) [] hx ht (by simp)
    rw [List.append_nil] at h
    rw [h]
    rfl

theorem tail_fields (sep : List UInt8) (hs : Blank sep) (hn : sep ≠ []) (t : List UInt8) (ht : Blank t) : ∀ (r : List (List UInt8)) (x : List UInt8), Solid x → (∀ y ∈ r, Solid y) →
    Lib.fieldsGo [] (x ++ (Lib.joinTail sep r ++ t)) = x :: r := by
  intro r
  induction r with
  | nil => intro x hx _; simpa [Lib.joinTail] using go_last x t hx ht
  | cons y r ih =>
    intro x hx hr
    have e : Lib.joinTail sep (y :: r) ++ t = sep ++ (y ++ (Lib.joinTail sep r ++ t)) := by simp [Lib.joinTail]
    rw [e, go_word x sep _ hx hs hn, ih y (hr y (by simp)) (fun z hz => hr z (by simp [hz]))]

/-- Words with white space between, ahead and behind. -/
theorem fields_join (pre sep t : List UInt8) (hp : Blank pre) (hs : Blank sep) (hn : sep ≠ []) (ht : Blank t) (ws : List (List UInt8)) (hw : ∀ y ∈ ws, Solid y) : Lib.fields (pre ++ (Lib.join ws sep ++ t)) = ws := by
  unfold Lib.fields
  rw [go_blank pre _ hp]
  cases ws with
  | nil =>
    rw [Lib.join_nil, List.nil_append]
    have h := go_blank t [] ht
    rw [List.append_nil] at h
    rw [h]
    rfl
  | cons x r =>
    rw [Lib.join_cons, List.append_assoc]
    exact tail_fields sep hs hn t ht r x (hw x (by simp)) (fun y hy => hw y (by simp [hy]))

theorem linesOf_cons : ∀ (body rest : List UInt8), (∀ c ∈ body, c ≠ 10) → linesOf (body ++ (10 :: rest)) = (body ++ [10]) :: linesOf rest := by
  intro body
  induction body with
  | nil => intro rest _; simp [linesOf]
  | cons c r ih =>
    intro rest h
    rw [List.cons_append, linesOf, if_neg (h c (by simp)), ih rest (fun d hd => h d (by simp [hd]))]
    rfl

theorem codeOf_none (l : List UInt8) (h : ∀ c ∈ l, c ≠ 35) : codeOf l = l := by
  unfold codeOf
  induction l with
  | nil => rfl
  | cons c r ih =>
    have hc : (c == 35) = false := beq_eq_false_iff_ne.2 (h c (by simp))
    rw [List.takeWhile_cons, hc]
    simp only [Bool.not_false, if_true]
    rw [ih (fun d hd => h d (by simp [hd]))]
theorem codeOf_cut (l r : List UInt8) (h : ∀ c ∈ l, c ≠ 35) : codeOf (l ++ (35 :: r)) = l := by
  unfold codeOf
  induction l with
  | nil => simp
  | cons c l ih =>
    have hc : (c == 35) = false := beq_eq_false_iff_ne.2 (h c (by simp))
    rw [List.cons_append, List.takeWhile_cons, hc]
    simp only [Bool.not_false, if_true]
    rw [ih (fun d hd => h d (by simp [hd]))]

theorem mem_join {c : UInt8} {sep : List UInt8} {ws : List (List UInt8)} (h : c ∈ Lib.join ws sep) : c ∈ sep ∨ ∃ x ∈ ws, c ∈ x := by
  cases ws with
  | nil => rw [Lib.join_nil] at h; cases h
  | cons x r =>
    rw [Lib.join_cons, List.mem_append] at h
    rcases h with h | h
    · exact .inr ⟨x, by simp, h⟩
    · unfold Lib.joinTail at h
      rw [List.mem_flatten] at h
      obtain ⟨l, hl, hc⟩ := h
      obtain ⟨y, hy, rfl⟩ := List.mem_map.1 hl
      rcases List.mem_append.1 hc with hc | hc
      · exact .inl hc
      · exact .inr ⟨y, by simp [hy], hc⟩

/-- A line of a text that is read as these words. -/
def LineFor (x : List UInt8) (ws : List (List UInt8)) : Prop :=
  ∃ body, x = body ++ [10] ∧ (∀ c ∈ body, c ≠ 10 ∧ okByte c = true) ∧ Lib.fields (codeOf x) = ws

def TextFor : List (List UInt8) → List (List (List UInt8)) → Prop
  | [], [] => True
  | x :: xs, l :: ls => LineFor x l ∧ TextFor xs ls
  | _, _ => False

theorem TextFor.snoc {x : List UInt8} {l : List (List UInt8)} : ∀ {xs : List (List UInt8)} {ls : List (List (List UInt8))}, TextFor xs ls → LineFor x l → TextFor (xs ++ [x]) (ls ++ [l])
  | [], [], _, h => ⟨h, trivial⟩
  | _ :: _, _ :: _, h, g => ⟨h.1, h.2.snoc g⟩
  | [], _ :: _, h, _ => h.elim
  | _ :: _, [], h, _ => h.elim

theorem TextFor.len : ∀ {xs : List (List UInt8)} {ls : List (List (List UInt8))}, TextFor xs ls → xs.length = ls.length
  | [], [], _ => rfl
  | _ :: _, _ :: _, h => by rw [List.length_cons, List.length_cons, h.2.len]
  | [], _ :: _, h => h.elim
  | _ :: _, [], h => h.elim

theorem TextFor.lines : ∀ {xs : List (List UInt8)} {ls : List (List (List UInt8))}, TextFor xs ls → linesOf xs.flatten = xs ∧ (xs.map fun x => Lib.fields (codeOf x)) = ls
  | [], [], _ => ⟨rfl, rfl⟩
  | x :: xs, l :: ls, h => by
    obtain ⟨⟨body, hx, hb, hf⟩, h2⟩ := h
    obtain ⟨e1, e2⟩ := h2.lines
    constructor
    · rw [List.flatten_cons, hx, List.append_assoc]
      rw [show [(10 : UInt8)] ++ xs.flatten = 10 :: xs.flatten from rfl, linesOf_cons body _ (fun c hc => (hb c hc).1), e1]
    · rw [List.map_cons, hf, e2]
  | [], _ :: _, h => h.elim
  | _ :: _, [], h => h.elim

theorem TextFor.count : ∀ {xs : List (List UInt8)} {ls : List (List (List UInt8))}, TextFor xs ls → xs.flatten.count 10 = xs.length
  | [], [], _ => rfl
  | x :: xs, l :: ls, h => by
    obtain ⟨⟨body, hx, hb, hf⟩, h2⟩ := h
    have e : body.count 10 = 0 := List.count_eq_zero.2 (fun hm => (hb 10 hm).1 rfl)
    rw [List.flatten_cons, List.count_append, h2.count, hx, List.count_append, e, List.length_cons]
    simp
    omega
  | [], _ :: _, h => h.elim
  | _ :: _, [], h => h.elim

theorem TextFor.ok : ∀ {xs : List (List UInt8)} {ls : List (List (List UInt8))}, TextFor xs ls → xs.flatten.all okByte = true
  | [], [], _ => rfl
  | x :: xs, l :: ls, h => by
    obtain ⟨⟨body, hx, hb, hf⟩, h2⟩ := h
    rw [List.flatten_cons, List.all_append, h2.ok, hx, List.all_append, List.all_eq_true.2 (fun c hc => (hb c hc).2)]
    rfl
  | [], _ :: _, h => h.elim
  | _ :: _, [], h => h.elim

theorem TextFor.ends : ∀ {xs : List (List UInt8)} {ls : List (List (List UInt8))}, TextFor xs ls → xs.flatten = [] ∨ ∃ l, xs.flatten = l ++ [10]
  | [], [], _ => .inl rfl
  | x :: xs, l :: ls, h => by
    obtain ⟨⟨body, hx, hb, hf⟩, h2⟩ := h
    refine .inr ?_
    rcases h2.ends with e | ⟨l', e⟩
    · exact ⟨body, by rw [List.flatten_cons, e, hx, List.append_nil]⟩
    · exact ⟨x ++ l', by rw [List.flatten_cons, e, List.append_assoc]⟩
  | [], _ :: _, h => h.elim
  | _ :: _, [], h => h.elim

theorem solid_of {x : ByteArray} (h : wordOk x = true) : Solid x.data.toList ∧ (∀ c ∈ x.data.toList, c ≠ 35 ∧ c ≠ 10 ∧ okByte c = true) := by
  unfold wordOk at h
  rw [Bool.and_eq_true, decide_eq_true_iff] at h
  obtain ⟨h1, h2⟩ := h
  have h3 : ∀ c ∈ x.data.toList, wordByte c = true := List.all_eq_true.1 h1
  refine ⟨⟨fun e => ?_, fun c hc => ?_⟩, fun c hc => ?_⟩
  · have h4 : x.data.toList.length = x.size := by simp
    rw [e] at h4
    simp at h4
    omega
  · have := wordByte_iff.1 (h3 c hc)
    have e : ∀ d : UInt8, d.toNat ≤ 32 → (c == d) = false := fun d hd => beq_eq_false_iff_ne.2 (by rintro rfl; omega)
    simp [Lib.isSp, e 9 (by decide), e 10 (by decide), e 11 (by decide), e 12 (by decide), e 13 (by decide), e 32 (by decide)]
  · have := wordByte_iff.1 (h3 c hc)
    refine ⟨fun e => this.2 (by rw [e]; rfl), fun e => ?_, okByte_iff.2 (.inr ⟨by omega, by omega⟩)⟩
    rw [e] at this
    exact absurd this.1.1 (by decide)

theorem words_data (l : List ByteArray) : (∀ x ∈ l, wordOk x = true) → (∀ y ∈ l.map (·.data.toList), Solid y) ∧ (∀ y ∈ l.map (·.data.toList), ∀ c ∈ y, c ≠ 35 ∧ c ≠ 10 ∧ okByte c = true) := by
  intro h
  constructor
  · intro y hy
    obtain ⟨x, hx, rfl⟩ := List.mem_map.1 hy
    exact (solid_of (h x hx)).1
  · intro y hy
    obtain ⟨x, hx, rfl⟩ := List.mem_map.1 hy
    exact (solid_of (h x hx)).2

/-- A line that is built of spaces, words, spaces and a comment. -/
theorem line_for (pre sep t cm : List UInt8) (hp : ∀ c ∈ pre, c = 32) (hs : ∀ c ∈ sep, c = 32) (hn : sep ≠ []) (ht : ∀ c ∈ t, c = 32) (hc : cm = [] ∨ ∃ r, cm = 35 :: r ∧ ∀ c ∈ r, c ≠ 10 ∧ okByte c = true)
    (l : List ByteArray) (hw : ∀ x ∈ l, wordOk x = true) : LineFor (pre ++ (Lib.join (l.map (·.data.toList)) sep ++ (t ++ cm)) ++ [10]) (l.map (·.data.toList)) := by
  obtain ⟨h1, h2⟩ := words_data l hw
  have b32 : ∀ {u : List UInt8}, (∀ c ∈ u, c = 32) → Blank u := fun h c hc => by rw [h c hc]; rfl
  have body : ∀ c ∈ pre ++ (Lib.join (l.map (·.data.toList)) sep ++ t), c ≠ 35 ∧ c ≠ 10 ∧ okByte c = true := by
    have s32 : ∀ c : UInt8, c = 32 → c ≠ 35 ∧ c ≠ 10 ∧ okByte c = true := by rintro c rfl; decide
    intro c hc
    rcases List.mem_append.1 hc with hc | hc
    · exact s32 c (hp c hc)
    · rcases List.mem_append.1 hc with hc | hc
      · rcases mem_join hc with hc | ⟨y, hy, hc⟩
        · exact s32 c (hs c hc)
        · exact h2 y hy c hc
      · exact s32 c (ht c hc)
  have assoc : pre ++ (Lib.join (l.map (·.data.toList)) sep ++ (t ++ cm)) = (pre ++ (Lib.join (l.map (·.data.toList)) sep ++ t)) ++ cm := by simp [List.append_assoc]
  refine ⟨pre ++ (Lib.join (l.map (·.data.toList)) sep ++ (t ++ cm)), rfl, ?_, ?_⟩
  · intro c hcm
    rw [assoc] at hcm
    rcases List.mem_append.1 hcm with h | h
    · exact (body c h).2
    · rcases hc with rfl | ⟨r, rfl, hr⟩
      · cases h
      · rcases List.mem_cons.1 h with rfl | h
        · decide
        · exact hr c h
  · rw [assoc]
    rcases hc with rfl | ⟨r, rfl, hr⟩
    · rw [List.append_nil, codeOf_none]
      · rw [show pre ++ (Lib.join (l.map (·.data.toList)) sep ++ t) ++ [10] = pre ++ (Lib.join (l.map (·.data.toList)) sep ++ (t ++ [10])) by simp [List.append_assoc]]
        refine fields_join pre sep _ (b32 hp) (b32 hs) hn (fun c hc => ?_) _ h1
        rcases List.mem_append.1 hc with h | h
        · exact b32 ht c h
        · rw [List.mem_singleton.1 h]; rfl
      · intro c hc
        rcases List.mem_append.1 hc with h | h
        · exact (body c h).1
        · rw [List.mem_singleton.1 h]; decide
    · rw [List.append_assoc, List.cons_append, codeOf_cut _ _ (fun c hc => (body c hc).1)]
      exact fields_join pre sep t (b32 hp) (b32 hs) hn (b32 ht) _ h1

/-- What Join writes. -/
theorem text_for : ∀ (ls : List (List ByteArray)), (∀ l ∈ ls, ∀ x ∈ l, wordOk x = true) → TextFor (ls.map lineText) (ls.map fun l => l.map (·.data.toList)) ∧ (ls.map lineText).flatten = allText ls := by
  intro ls
  induction ls with
  | nil => intro _; exact ⟨trivial, rfl⟩
  | cons l ls ih =>
    intro h
    obtain ⟨h1, h2⟩ := ih (fun l' hl => h l' (by simp [hl]))
    refine ⟨⟨?_, h1⟩, by rw [List.map_cons, List.flatten_cons, h2]; rfl⟩
    have := line_for [] [32] [] [] (by simp) (by simp) (by simp) (by simp) (.inl rfl) l (h l (by simp))
    simpa [lineText] using this

theorem back_data (ls : List (List ByteArray)) : ((ls.map fun l => l.map (·.data.toList)).map fun ws => ws.map fun l => (⟨l.toArray⟩ : ByteArray)) = ls := by
  rw [List.map_map]
  conv => rhs; rw [← List.map_id ls]
  apply List.map_congr_left
  intro l _
  simp only [Function.comp, List.map_map, id]
  conv => rhs; rw [← List.map_id l]
  apply List.map_congr_left
  intro x _
  rfl
end Go.Proofs.YtainjdmgncicmaaDoor
