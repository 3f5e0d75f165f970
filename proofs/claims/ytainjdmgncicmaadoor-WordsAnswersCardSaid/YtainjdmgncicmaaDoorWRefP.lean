/- WordsAnswers: the lists: what the reference's Split and Number read. -/
import Derived.Test.YtainjdmgncicmaaDoorWV
import Derived.Test.YtainjdmgncicmaaDoorWN
import Derived.Lib.Split
import Derived.Lib.IndexBytes
import Derived.Lib.IndexLaws
namespace Go.Proofs.YtainjdmgncicmaaDoor
open Go.RowKit

/-- The parts between spaces that are not empty are the fields, where the only white space is spaces. -/
theorem split_fields : ∀ (n : Nat) (l : List UInt8), l.length ≤ n → (∀ c ∈ l, Lib.isSp c = true → c = 32) → (Lib.split l [32]).filter (fun x => !x.isEmpty) = Lib.fields l := by
  have hsp : Lib.isSp 32 = true := by decide
  intro n
  induction n with
  | zero =>
    intro l hl h
    have : l = [] := List.eq_nil_of_length_eq_zero (by omega)
    subst this
    rfl
  | succ n ih =>
    intro l hl h
    rcases Lib.index_spec l [32] with ⟨hm, _⟩ | ⟨i, hi, hil, _, _⟩
    · have hc := Lib.count_miss hm
      have h1 : Lib.split l [32] = [l] := by unfold Lib.split; rw [hc]; rfl
      rw [h1]
      rw [Lib.index_one] at hm
      have hno := Lib.indexByte_none hm
      have hs : ∀ c ∈ l, Lib.isSp c = false := by
        intro c hc
        cases hb : Lib.isSp c with
        | false => rfl
        | true =>
          have := h c hc hb
          subst this
          obtain ⟨k, hk, e⟩ := List.mem_iff_getElem.1 hc
          exact absurd (by rw [List.getElem?_eq_getElem hk, e]) (hno k)
      have := go_solid l [] [] hs
      rw [List.append_nil, List.nil_append] at this
      unfold Lib.fields
      rw [this]
      cases l with
      | nil => rfl
      | cons a r => rfl
    · have hne : ¬ (Lib.index l [32] == -1) = true := fun e => by have := beq_iff_eq.1 e; omega
      have hc := Lib.count_hit (s := l) (sub := [32]) (by simp) hi
      have e1 : Lib.split l [32] = l.take i :: Lib.split (l.drop (i + 1)) [32] := by
        unfold Lib.split
        rw [hc, Nat.add_comm 1, Lib.splitK, if_neg hne, hi]
        rfl
      have hi2 := hi
      rw [Lib.index_one] at hi2
      obtain ⟨hat, hbefore⟩ := Lib.indexByte_some hi2
      obtain ⟨hlt, hat2⟩ := List.getElem?_eq_some_iff.1 hat
      have hl2 : l = l.take i ++ (32 :: l.drop (i + 1)) := by
        rw [← hat2, List.getElem_cons_drop, List.take_append_drop]
      have hs : ∀ c ∈ l.take i, Lib.isSp c = false := by
        intro c hc
        cases hb : Lib.isSp c with
        | false => rfl
        | true =>
          have := h c (List.mem_of_mem_take hc) hb
          subst this
          obtain ⟨k, hk, e⟩ := List.mem_iff_getElem.1 hc
          rw [List.length_take] at hk
          rw [List.getElem_take] at e
          exact absurd (by rw [List.getElem?_eq_getElem (by omega), e]) (hbefore k (by omega))
      have hrest := ih (l.drop (i + 1)) (by rw [List.length_drop]; omega) (fun c hc => h c (List.mem_of_mem_drop hc))
      have e2 : Lib.fields l = (if (l.take i).isEmpty then [] else [l.take i]) ++ Lib.fields (l.drop (i + 1)) := by
        unfold Lib.fields
        conv => lhs; rw [hl2]
        rw [go_solid _ _ _ hs, List.nil_append]
        cases ht : l.take i with
        | nil => rw [Lib.fieldsGo_sp _ _ hsp]; rfl
        | cons a r => rw [Lib.fieldsGo_end _ _ _ hsp (by simp)]; rfl
      rw [e1, e2, List.filter_cons, hrest]
      cases ht : l.take i with
      | nil => simp
      | cons a r => simp

/-- A line feed behind changes no field. -/
theorem fieldsGo_end10 : ∀ (l cur : List UInt8), Lib.fieldsGo cur (l ++ [10]) = Lib.fieldsGo cur l := by
  have hsp : Lib.isSp 10 = true := by decide
  intro l
  induction l with
  | nil =>
    intro cur
    cases cur with
    | nil => rfl
    | cons a r => simp [Lib.fieldsGo, hsp]
  | cons c r ih =>
    intro cur
    cases hb : Lib.isSp c with
    | false => rw [List.cons_append, Lib.fieldsGo_more _ _ _ hb, Lib.fieldsGo_more _ _ _ hb, ih]
    | true =>
      rw [List.cons_append]
      simp only [Lib.fieldsGo, hb, if_true]
      rw [ih]

theorem codeOf_snoc10 (b : List UInt8) : codeOf (b ++ [10]) = codeOf b ∨ codeOf (b ++ [10]) = codeOf b ++ [10] := by
  unfold codeOf
  induction b with
  | nil => exact .inr rfl
  | cons c r ih =>
    rw [List.cons_append, List.takeWhile_cons, List.takeWhile_cons]
    by_cases h : (!(c == 35)) = true
    · rw [if_pos h, if_pos h]
      rcases ih with e | e <;> rw [e]
      · exact .inl rfl
      · exact .inr rfl
    · rw [if_neg h, if_neg h]
      exact .inl rfl

theorem fields_code10 (b : List UInt8) : Lib.fields (codeOf (b ++ [10])) = Lib.fields (codeOf b) := by
  rcases codeOf_snoc10 b with e | e <;> rw [e]
  exact fieldsGo_end10 _ _

theorem sp_of_ok {c : UInt8} (h : okByte c = true) (h10 : c ≠ 10) (hb : Lib.isSp c = true) : c = 32 := by
  have h1 := okByte_iff.1 h
  have h2 : c.toNat ≠ 10 := fun e => h10 (UInt8.toNat_inj.1 e)
  apply UInt8.toNat_inj.1
  show c.toNat = 32
  have h3 : c.toNat = 9 ∨ c.toNat = 10 ∨ c.toNat = 11 ∨ c.toNat = 12 ∨ c.toNat = 13 ∨ c.toNat = 32 := by
    unfold Lib.isSp at hb
    simp [← UInt8.toNat_inj] at hb
    omega
  omega

/-- What the reference reads of a line (its feed cut off) is what the fields of the line are. -/
theorem line_same (b : List UInt8) (h : ∀ c ∈ b, okByte c = true ∧ c ≠ 10) : (Lib.split (codeOf b) [32]).filter (fun x => !x.isEmpty) = Lib.fields (codeOf (b ++ [10])) := by
  rw [fields_code10]
  refine split_fields _ _ (Nat.le_refl _) (fun c hc hb => ?_)
  have hm : c ∈ b := (List.takeWhile_sublist _).subset hc
  exact sp_of_ok (h c hm).1 (h c hm).2 hb

/-- The reference's reading of a numeral. -/
def stepN (neg : Bool) (n : Int) (c : UInt8) : Int :=
  if neg then wrap64 (wrap64 (10 * n) - ((c.toNat : Int) - 48)) else wrap64 (wrap64 (10 * n) + ((c.toNat : Int) - 48))

theorem w64_in (n : Int) (h0 : -9223372036854775808 ≤ n) (h1 : n ≤ 9223372036854775807) : wrap64 n = n := by unfold wrap64; omega
theorem step_pos (q : Int) (d : Int) (c : UInt8) (hc : (c.toNat : Int) = 48 + d) (h0 : 0 ≤ q) (h1 : 0 ≤ d) (h2 : 10 * q + d ≤ 9223372036854775807) : stepN false q c = 10 * q + d := by
  unfold stepN
  rw [if_neg (by decide), hc, w64_in (10 * q) (by omega) (by omega), w64_in _ (by omega) (by omega)]
  omega
theorem step_neg (q : Int) (d : Int) (c : UInt8) (hc : (c.toNat : Int) = 48 + d) (h0 : q ≤ 0) (h1 : 0 ≤ d) (h2 : -9223372036854775808 ≤ 10 * q - d) : stepN true q c = 10 * q - d := by
  unfold stepN
  rw [if_pos rfl, hc, w64_in (10 * q) (by omega) (by omega), w64_in _ (by omega) (by omega)]
  omega

theorem fold_dec (u : Nat) (h : (u : Int) ≤ 9223372036854775807) : (Lib.decDigits u).foldl (stepN false) 0 = (u : Int) := by
  induction u using Nat.strongRecOn with
  | _ u ih =>
    by_cases h1 : u < 10
    · rw [Lib.decDigits, dif_pos h1]
      have := digit_nat h1
      rw [List.foldl, List.foldl, step_pos 0 (u : Int) _ (by omega) (by omega) (by omega) (by omega)]
      omega
    · rw [Lib.decDigits, dif_neg h1, List.foldl_append, ih (u / 10) (by omega) (by omega)]
      have h3 : u % 10 < 10 := Nat.mod_lt _ (by omega)
      have := digit_nat h3
      rw [List.foldl, List.foldl, step_pos ((u / 10 : Nat) : Int) ((u % 10 : Nat) : Int) _ (by omega) (by omega) (by omega) (by omega)]
      omega
theorem fold_neg (u : Nat) (h : (u : Int) ≤ 9223372036854775808) : (Lib.decDigits u).foldl (stepN true) 0 = -(u : Int) := by
  induction u using Nat.strongRecOn with
  | _ u ih =>
    by_cases h1 : u < 10
    · rw [Lib.decDigits, dif_pos h1]
      have := digit_nat h1
      rw [List.foldl, List.foldl, step_neg 0 (u : Int) _ (by omega) (by omega) (by omega) (by omega)]
      omega
    · rw [Lib.decDigits, dif_neg h1, List.foldl_append, ih (u / 10) (by omega) (by omega)]
      have h3 : u % 10 < 10 := Nat.mod_lt _ (by omega)
      have := digit_nat h3
      rw [List.foldl, List.foldl, step_neg (-((u / 10 : Nat) : Int)) ((u % 10 : Nat) : Int) _ (by omega) (by omega) (by omega) (by omega)]
      omega
end Go.Proofs.YtainjdmgncicmaaDoor
