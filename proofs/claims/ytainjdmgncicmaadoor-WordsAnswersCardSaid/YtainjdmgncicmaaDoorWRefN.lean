/- WordsAnswers: what the reference's Number answers. -/
import Derived.Test.YtainjdmgncicmaaDoorWRefE
import Derived.Test.YtainjdmgncicmaaDoorWRefP
namespace Go.Proofs.YtainjdmgncicmaaDoor
open Go.RowKit

/-- The sign and the digits of a text. -/
def negB (l : List UInt8) : Bool := match l with | c :: _ => c == 45 | [] => false
def bodyOf (l : List UInt8) : List UInt8 := if negB l then l.drop 1 else l
def foldN (l : List UInt8) : Int := (bodyOf l).foldl (stepN (negB l)) 0
theorem wrap64_range (z : Int) : -9223372036854775808 ≤ wrap64 z ∧ wrap64 z ≤ 9223372036854775807 := by unfold wrap64; omega
theorem stepN_range (b : Bool) (n : Int) (c : UInt8) : -9223372036854775808 ≤ stepN b n c ∧ stepN b n c ≤ 9223372036854775807 := by
  unfold stepN; split <;> exact wrap64_range _
theorem foldl_range (b : Bool) : ∀ (l : List UInt8) (n : Int), -9223372036854775808 ≤ n → n ≤ 9223372036854775807 → -9223372036854775808 ≤ l.foldl (stepN b) n ∧ l.foldl (stepN b) n ≤ 9223372036854775807 := by
  intro l
  induction l with
  | nil => intro n h0 h1; exact ⟨h0, h1⟩
  | cons c r ih =>
    intro n _ _
    have h := stepN_range b n c
    exact ih _ h.1 h.2
theorem foldN_range (l : List UInt8) : -9223372036854775808 ≤ foldN l ∧ foldN l ≤ 9223372036854775807 := foldl_range _ _ 0 (by omega) (by omega)

theorem itoa_fold (v : Int) (h0 : -9223372036854775808 ≤ v) (h1 : v ≤ 9223372036854775807) : foldN (Lib.itoa v) = v ∧ (bodyOf (Lib.itoa v)).all digitB = true := by
  unfold Lib.itoa
  by_cases hn : v < 0
  · rw [if_pos hn]
    have e : negB (45 :: Lib.decDigits v.natAbs) = true := rfl
    have eb : bodyOf (45 :: Lib.decDigits v.natAbs) = Lib.decDigits v.natAbs := by simp [bodyOf, e]
    refine ⟨?_, ?_⟩
    · rw [foldN, eb, e, fold_neg _ (by omega)]; omega
    · rw [eb, List.all_eq_true]
      intro c hc
      exact digitB_iff.2 (dec_all _ c hc)
  · rw [if_neg hn]
    obtain ⟨c, r, e, _⟩ := dec_head v.toNat
    have hc := dec_all v.toNat c (by rw [e]; simp)
    have en : negB (Lib.decDigits v.toNat) = false := by
      rw [e]
      show (c == 45) = false
      rw [beq_eq_false_iff_ne]
      intro h
      subst h
      exact absurd hc.1 (by decide)
    have eb : bodyOf (Lib.decDigits v.toNat) = Lib.decDigits v.toNat := by simp [bodyOf, en]
    refine ⟨?_, ?_⟩
    · rw [foldN, eb, en, fold_dec _ (by omega)]; omega
    · rw [eb, List.all_eq_true]
      intro c hc
      exact digitB_iff.2 (dec_all _ c hc)

/-- Where Number answers a number: the text is its numeral. -/
theorem numR_of {l : List UInt8} {v a b : Int} (h0 : -9223372036854775808 ≤ v) (h1 : v ≤ 9223372036854775807) (e : Lib.itoa v = l) (ha : a ≤ v) (hb : v ≤ b) : numR l a b = .tuple #[.int .i64 v, .bool true] := by
  subst e
  simp only [numR]
  rw [atoi_itoa v h0 h1]
  simp only []
  rw [if_pos ⟨trivial, ha, hb⟩]
theorem numR_not {l : List UInt8} {a b : Int} (h : ∀ v, -9223372036854775808 ≤ v → v ≤ 9223372036854775807 → Lib.itoa v = l → ¬ (a ≤ v ∧ v ≤ b)) : numR l a b = .tuple #[.int .i64 0, .bool false] := by
  unfold numR
  rcases hv : Lib.atoiAll l with v | _ | _
  · simp only []
    rw [if_neg]
    rintro ⟨h1, h2⟩
    have hr := atoi_range hv
    exact h v hr.1 hr.2 h1 h2
  · rfl
  · rfl
/-- A text that is a numeral has digits behind its sign, and is read as it is. -/
theorem numR_digits {l : List UInt8} {a b : Int} (h : (bodyOf l).all digitB = false) : numR l a b = .tuple #[.int .i64 0, .bool false] :=
  numR_not fun v h0 h1 e => by
    subst e
    rw [(itoa_fold v h0 h1).2] at h
    cases h
theorem numR_fold (l : List UInt8) (a b : Int) : numR l a b = if Lib.itoa (foldN l) = l ∧ a ≤ foldN l ∧ foldN l ≤ b then .tuple #[.int .i64 (foldN l), .bool true] else .tuple #[.int .i64 0, .bool false] := by
  have hr := foldN_range l
  split
  · next h => exact numR_of hr.1 hr.2 h.1 h.2.1 h.2.2
  · next h =>
    refine numR_not fun v h0 h1 e hv => h ?_
    have := (itoa_fold v h0 h1).1
    rw [e] at this
    rw [this]
    exact ⟨e, hv.1, hv.2⟩
theorem numR_empty {l : List UInt8} {a b : Int} (h : l.length = 0) : numR l a b = .tuple #[.int .i64 0, .bool false] :=
  numR_not fun v h0 h1 e => by
    have := (itoa_len v h0 h1).2
    rw [e] at this
    omega

/-- The first j bytes behind place k are digits. -/
theorem fold_snoc (b : Bool) (s : ByteArray) (k j : Nat) (h : k + j < s.size) :
    ((s.data.toList.drop k).take (j + 1)).foldl (stepN b) 0 = stepN b (((s.data.toList.drop k).take j).foldl (stepN b) 0) s[k + j] := by
  have e : (s.data.toList.drop k).take (j + 1) = (s.data.toList.drop k).take j ++ [s[k + j]] := by
    rw [List.take_succ_eq_append_getElem (by rw [List.length_drop, Array.length_toList]; show j < s.size - k; omega)]
    congr 1
    rw [List.getElem_drop]
    rfl
  rw [e, List.foldl_append]
  rfl
def Digits (s : ByteArray) (k j : Nat) : Prop := ∀ i, i < j → ∃ h : k + i < s.size, digitB s[k + i] = true
theorem Digits.all {s : ByteArray} {k : Nat} (h : Digits s k (s.size - k)) : (s.data.toList.drop k).all digitB = true := by
  rw [List.all_eq_true]
  intro c hc
  obtain ⟨i, hi, e⟩ := List.mem_iff_getElem.1 hc
  rw [List.length_drop, Array.length_toList] at hi
  obtain ⟨h1, h2⟩ := h i hi
  rw [List.getElem_drop] at e
  rw [← e]
  exact h2
theorem digits_not {s : ByteArray} {k j : Nat} (h : k + j < s.size) (hd : digitB s[k + j] = false) : (s.data.toList.drop k).all digitB = false := by
  rw [← Bool.not_eq_true, List.all_eq_true]
  intro hall
  have := hall s[k + j] (by
    rw [List.mem_iff_getElem]
    refine ⟨j, by rw [List.length_drop, Array.length_toList]; show j < s.size - k; omega, ?_⟩
    rw [List.getElem_drop]
    rfl)
  rw [hd] at this
  cases this

theorem negB_of {s : ByteArray} (h : 0 < s.size) {b : Bool} (hc : ((s[0].toNat : Int) == 45) = b) : negB s.data.toList = b := by
  have h2 : 0 < s.data.toList.length := by rw [Array.length_toList]; exact h
  have e : s.data.toList = s.data.toList[0] :: s.data.toList.drop 1 := by
    have := List.getElem_cons_drop h2
    rw [this, List.drop_zero]
  rw [e]
  show (s[0] == 45) = b
  rw [← hc, Bool.eq_iff_iff, beq_iff_eq, beq_iff_eq, ← UInt8.toNat_inj]
  show s[0].toNat = 45 ↔ _
  omega

set_option maxHeartbeats 1000000 in
theorem refNumber_any (s : ByteArray) (hs : s.size ≤ 281474976710656) (a b : Int) (w : World) :
    Calls Tryd.prog 19 #[.string s, .int .i64 a, .int .i64 b] w fun e w' => e = .returned (numR s.data.toList a b) ∧ Below w.heap.size w w' := by
  by_cases h0 : s.size = 0
  · rw [numR_empty (by simpa using h0)]
    have h0' : ((s.size : Int) == 0) = true := by simp [h0]
    clear h0
    go_enter Tryd.func19, Tryd.ntmps19
    go_wp2_with fail
    go_ret2
    exact ⟨rfl, Below.refl _ _⟩
  · by_cases hl : 20 < s.size
    · rw [numR_long (by simpa using hl)]
      have hl' : (20 : Int) < (s.size : Int) := by omega
      have h0' : ((s.size : Int) == 0) = false := beq_eq_false_iff_ne.2 (by omega)
      clear h0
      go_enter Tryd.func19, Tryd.ntmps19
      go_wp2_with fail
      go_ret2
      exact ⟨rfl, Below.refl _ _⟩
    · have hl' : ¬ (20 : Int) < (s.size : Int) := by omega
      have h0' : ((s.size : Int) == 0) = false := beq_eq_false_iff_ne.2 (by omega)
      have h1 : 0 < s.size := by omega
      by_cases hc : ((s[0].toNat : Int) == 45) = true
      · have hN : negB s.data.toList = true := negB_of h1 hc
        have hB : bodyOf s.data.toList = s.data.toList.drop 1 := by simp [bodyOf, hN]
        have hm0 : ((s[0].toNat : Int) == 45) = true := hc
        have HNB := Lib.hid (And.intro hN hB)
        clear hc hN hB
        go_enter Tryd.func19, Tryd.ntmps19
        go_wp2_with fail
        go_loop [8, 10] (fun n i => ∃ m j : Nat, m = 1 + j ∧ m ≤ s.size ∧ i = .int .i64 m ∧ n = .int .i64 (((s.data.toList.drop 1).take j).foldl (stepN true) 0) ∧ Digits s 1 j) (fun _ i => s.size - (intOf i).toNat)
        case atStart => exact ⟨1, 0, rfl, by omega, rfl, rfl, fun i hi => by omega⟩
        case round =>
          obtain ⟨m, j, hmj, hm, rfl, rfl, hd⟩ := hrel
          by_cases hlt : m < s.size
          · have hlt' : (m : Int) < (s.size : Int) := by omega
            have hm1 : (0 : Int) ≤ (m : Int) := by omega
            have hfs := fold_snoc true s 1 j (by omega)
            generalize ((s.data.toList.drop 1).take j).foldl (stepN true) 0 = N at *
            by_cases hdg : digitB s[m] = true
            · have hdd := digitB_iff.1 hdg
              have HFS : Hid (((s.data.toList.drop 1).take (j + 1)).foldl (stepN true) 0 = wrap64 (wrap64 (10 * N) - ((s[m].toNat : Int) - 48))) := by
                have e : s[1 + j]'(by omega) = s[m] := by simp only [hmj]
                rw [e] at hfs
                exact hfs
              have HD1 : Hid (Digits s 1 (j + 1)) := fun i hi => by
                by_cases e : i = j
                · subst e; refine ⟨by omega, ?_⟩
                  have e2 : s[1 + i]'(by omega) = s[m] := by simp only [hmj]
                  rw [e2]; exact hdg
                · exact hd i (by omega)
              obtain ⟨d0, d1⟩ := hdd
              have d0' : (48 : Int) ≤ (s[m].toNat : Int) := by omega
              have d1' : (s[m].toNat : Int) ≤ 57 := by omega
              have HM := Lib.hid hmj
              clear hfs hdg hd hmj
              go_wp2_with fail
              go_round
              case rel => exact ⟨m + 1, j + 1, by rw [HM.out]; omega, by omega, by go_num, by rw [HFS.out], HD1.out⟩
              case measure => simp [intOf]; omega
            · have hno : digitB s[m] = false := by simpa using hdg
              have HR : Hid (numR s.data.toList a b = .tuple #[.int .i64 0, .bool false]) := numR_digits (by
                rw [HNB.out.2]
                refine digits_not (j := j) (by omega) ?_
                have e2 : s[1 + j]'(by omega) = s[m] := by simp only [hmj]
                rw [e2]; exact hno)
              have hk : ¬ (48 ≤ s[m].toNat ∧ s[m].toNat ≤ 57) := fun h => hdg (digitB_iff.2 h)
              clear hfs hdg hd hmj hno
              by_cases hl1 : (s[m].toNat : Int) < 48
              · go_wp2_with fail
                go_ret2
                exact ⟨by rw [HR.out]; rfl, Below.refl _ _⟩
              · have hl2 : (57 : Int) < (s[m].toNat : Int) := by omega
                go_wp2_with fail
                go_ret2
                exact ⟨by rw [HR.out]; rfl, Below.refl _ _⟩
          · obtain rfl : m = s.size := by omega
            have ht : (s.data.toList.drop 1).take j = s.data.toList.drop 1 := List.take_of_length_le (by rw [List.length_drop, Array.length_toList]; show s.size - 1 ≤ j; omega)
            rw [ht]
            have hf : (s.data.toList.drop 1).foldl (stepN true) 0 = foldN s.data.toList := by rw [foldN, HNB.out.1, HNB.out.2]
            rw [hf]
            have hr := foldN_range s.data.toList
            have HF := Lib.hid (numR_fold s.data.toList a b)
            clear ht hf hd hmj
            generalize foldN s.data.toList = N at *
            have HD := Lib.hid (fun w => refDecimal_le N.natAbs N (Nat.le_refl _) hr.1 hr.2 w)
            clear hr
            have hiff := bytes_eq (Lib.itoa N) s
            by_cases e : Lib.itoa N = s.data.toList
            · have e2 := hiff.2 e
              rw [e2] at HD
              by_cases g1 : a ≤ N
              · by_cases g2 : N ≤ b
                · have HR := Lib.hid (show numR s.data.toList a b = .tuple #[.int .i64 N, .bool true] by rw [HF.out, if_pos ⟨e, g1, g2⟩])
                  have g1' : ¬ N < a := by omega
                  have g2' : ¬ b < N := by omega
                  clear e e2 hiff HF
                  go_wp2_with (go_at_call 12; (with_reducible refine (HD.out _).mono ?_); rintro e w2 ⟨rfl, hb2⟩)
                  go_ret2
                  exact ⟨by rw [HR.out]; rfl, hb2⟩
                · have HR := Lib.hid (show numR s.data.toList a b = .tuple #[.int .i64 0, .bool false] by rw [HF.out, if_neg (fun h => g2 h.2.2)])
                  have g1' : ¬ N < a := by omega
                  have g2' : b < N := by omega
                  clear e e2 hiff HF
                  go_wp2_with (go_at_call 12; (with_reducible refine (HD.out _).mono ?_); rintro e w2 ⟨rfl, hb2⟩)
                  go_ret2
                  exact ⟨by rw [HR.out]; rfl, hb2⟩
              · have HR := Lib.hid (show numR s.data.toList a b = .tuple #[.int .i64 0, .bool false] by rw [HF.out, if_neg (fun h => g1 h.2.1)])
                have g1' : N < a := by omega
                clear e e2 hiff HF
                go_wp2_with (go_at_call 12; (with_reducible refine (HD.out _).mono ?_); rintro e w2 ⟨rfl, hb2⟩)
                go_ret2
                exact ⟨by rw [HR.out]; rfl, hb2⟩
            · have HR := Lib.hid (show numR s.data.toList a b = .tuple #[.int .i64 0, .bool false] by rw [HF.out, if_neg (fun h => e h.1)])
              have e2 : ¬ (⟨(Lib.itoa N).toArray⟩ : ByteArray) = s := fun h => e (hiff.1 h)
              generalize (⟨(Lib.itoa N).toArray⟩ : ByteArray) = t at *
              have e3 := list_ne e2
              have e4 : (t.toList == s.toList) = false := beq_eq_false_iff_ne.2 e3
              clear e hiff HF
              go_wp2_with (go_at_call 12; (with_reducible refine (HD.out _).mono ?_); rintro e w2 ⟨rfl, hb2⟩)
              all_goals (go_ret2; exact ⟨by rw [HR.out]; rfl, hb2⟩)
      · have hc : ((s[0].toNat : Int) == 45) = false := by simpa using hc
        have hN : negB s.data.toList = false := negB_of h1 hc
        have hB : bodyOf s.data.toList = s.data.toList.drop 0 := by simp [bodyOf, hN]
        have hm0 : ((s[0].toNat : Int) == 45) = false := hc
        have HNB := Lib.hid (And.intro hN hB)
        clear hc hN hB
        go_enter Tryd.func19, Tryd.ntmps19
        go_wp2_with fail
        go_loop [8, 10] (fun n i => ∃ m j : Nat, m = 0 + j ∧ m ≤ s.size ∧ i = .int .i64 m ∧ n = .int .i64 (((s.data.toList.drop 0).take j).foldl (stepN false) 0) ∧ Digits s 0 j) (fun _ i => s.size - (intOf i).toNat)
        case atStart => exact ⟨0, 0, rfl, by omega, rfl, rfl, fun i hi => by omega⟩
        case round =>
          obtain ⟨m, j, hmj, hm, rfl, rfl, hd⟩ := hrel
          by_cases hlt : m < s.size
          · have hlt' : (m : Int) < (s.size : Int) := by omega
            have hm1 : (0 : Int) ≤ (m : Int) := by omega
            have hfs := fold_snoc false s 0 j (by omega)
            generalize ((s.data.toList.drop 0).take j).foldl (stepN false) 0 = N at *
            by_cases hdg : digitB s[m] = true
            · have hdd := digitB_iff.1 hdg
              have HFS : Hid (((s.data.toList.drop 0).take (j + 1)).foldl (stepN false) 0 = wrap64 (wrap64 (10 * N) + ((s[m].toNat : Int) - 48))) := by
                have e : s[0 + j]'(by omega) = s[m] := by simp only [hmj]
                rw [e] at hfs
                exact hfs
              have HD1 : Hid (Digits s 0 (j + 1)) := fun i hi => by
                by_cases e : i = j
                · subst e; refine ⟨by omega, ?_⟩
                  have e2 : s[0 + i]'(by omega) = s[m] := by simp only [hmj]
                  rw [e2]; exact hdg
                · exact hd i (by omega)
              obtain ⟨d0, d1⟩ := hdd
              have d0' : (48 : Int) ≤ (s[m].toNat : Int) := by omega
              have d1' : (s[m].toNat : Int) ≤ 57 := by omega
              have HM := Lib.hid hmj
              clear hfs hdg hd hmj
              go_wp2_with fail
              go_round
              case rel => exact ⟨m + 1, j + 1, by rw [HM.out]; omega, by omega, by go_num, by rw [HFS.out], HD1.out⟩
              case measure => simp [intOf]; omega
            · have hno : digitB s[m] = false := by simpa using hdg
              have HR : Hid (numR s.data.toList a b = .tuple #[.int .i64 0, .bool false]) := numR_digits (by
                rw [HNB.out.2]
                refine digits_not (j := j) (by omega) ?_
                have e2 : s[0 + j]'(by omega) = s[m] := by simp only [hmj]
                rw [e2]; exact hno)
              have hk : ¬ (48 ≤ s[m].toNat ∧ s[m].toNat ≤ 57) := fun h => hdg (digitB_iff.2 h)
              clear hfs hdg hd hmj hno
              by_cases hl1 : (s[m].toNat : Int) < 48
              · go_wp2_with fail
                go_ret2
                exact ⟨by rw [HR.out]; rfl, Below.refl _ _⟩
              · have hl2 : (57 : Int) < (s[m].toNat : Int) := by omega
                go_wp2_with fail
                go_ret2
                exact ⟨by rw [HR.out]; rfl, Below.refl _ _⟩
          · obtain rfl : m = s.size := by omega
            have ht : (s.data.toList.drop 0).take j = s.data.toList.drop 0 := List.take_of_length_le (by rw [List.length_drop, Array.length_toList]; show s.size - 0 ≤ j; omega)
            rw [ht]
            have hf : (s.data.toList.drop 0).foldl (stepN false) 0 = foldN s.data.toList := by rw [foldN, HNB.out.1, HNB.out.2]
            rw [hf]
            have hr := foldN_range s.data.toList
            have HF := Lib.hid (numR_fold s.data.toList a b)
            clear ht hf hd hmj
            generalize foldN s.data.toList = N at *
            have HD := Lib.hid (fun w => refDecimal_le N.natAbs N (Nat.le_refl _) hr.1 hr.2 w)
            clear hr
            have hiff := bytes_eq (Lib.itoa N) s
            by_cases e : Lib.itoa N = s.data.toList
            · have e2 := hiff.2 e
              rw [e2] at HD
              by_cases g1 : a ≤ N
              · by_cases g2 : N ≤ b
                · have HR := Lib.hid (show numR s.data.toList a b = .tuple #[.int .i64 N, .bool true] by rw [HF.out, if_pos ⟨e, g1, g2⟩])
                  have g1' : ¬ N < a := by omega
                  have g2' : ¬ b < N := by omega
                  clear e e2 hiff HF
                  go_wp2_with (go_at_call 12; (with_reducible refine (HD.out _).mono ?_); rintro e w2 ⟨rfl, hb2⟩)
                  go_ret2
                  exact ⟨by rw [HR.out]; rfl, hb2⟩
                · have HR := Lib.hid (show numR s.data.toList a b = .tuple #[.int .i64 0, .bool false] by rw [HF.out, if_neg (fun h => g2 h.2.2)])
                  have g1' : ¬ N < a := by omega
                  have g2' : b < N := by omega
                  clear e e2 hiff HF
                  go_wp2_with (go_at_call 12; (with_reducible refine (HD.out _).mono ?_); rintro e w2 ⟨rfl, hb2⟩)
                  go_ret2
                  exact ⟨by rw [HR.out]; rfl, hb2⟩
              · have HR := Lib.hid (show numR s.data.toList a b = .tuple #[.int .i64 0, .bool false] by rw [HF.out, if_neg (fun h => g1 h.2.1)])
                have g1' : N < a := by omega
                clear e e2 hiff HF
                go_wp2_with (go_at_call 12; (with_reducible refine (HD.out _).mono ?_); rintro e w2 ⟨rfl, hb2⟩)
                go_ret2
                exact ⟨by rw [HR.out]; rfl, hb2⟩
            · have HR := Lib.hid (show numR s.data.toList a b = .tuple #[.int .i64 0, .bool false] by rw [HF.out, if_neg (fun h => e h.1)])
              have e2 : ¬ (⟨(Lib.itoa N).toArray⟩ : ByteArray) = s := fun h => e (hiff.1 h)
              generalize (⟨(Lib.itoa N).toArray⟩ : ByteArray) = t at *
              have e3 := list_ne e2
              have e4 : (t.toList == s.toList) = false := beq_eq_false_iff_ne.2 e3
              clear e hiff HF
              go_wp2_with (go_at_call 12; (with_reducible refine (HD.out _).mono ?_); rintro e w2 ⟨rfl, hb2⟩)
              all_goals (go_ret2; exact ⟨by rw [HR.out]; rfl, hb2⟩)
end Go.Proofs.YtainjdmgncicmaaDoor
