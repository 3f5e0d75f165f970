/- Shares. -/
import Derived.Test.YtdiogfjbjdiclaaDivide
namespace Go.Proofs.Ytdiogfjbjdiclaa
open Go.RowKit Go.Sort Go.Shelf
variable {k : Nat}

/-- A row of the indices below n: first those of the greatest numbers, of equal ones the lesser index. -/
def OrderOk (n : Nat) (rem f : Nat → Nat) : Prop :=
  (∀ p q, p < q → q < n → rem (f q) < rem (f p) ∨ rem (f p) = rem (f q) ∧ f p < f q) ∧ ∀ x, x < n → ∃ p, p < n ∧ f p = x

theorem mem_of_perm {d' : Array (Fin (k + 1))} (h : PermIn 0 (k + 1) (idxF k) d') (x : Fin (k + 1)) : ∃ p, p < k + 1 ∧ d'[p]! = x := by
  have hs : d'.size = k + 1 := h.1.trans size_idxF
  have e1 := extract_toList d' 0 (k + 1) (by omega)
  have e2 := extract_toList (idxF k) 0 (k + 1) (by rw [size_idxF]; omega)
  have hp := h.2.2
  rw [e1, e2] at hp
  have hm : x ∈ (List.range' 0 (k + 1 - 0)).map (fun i => (idxF k)[i]!) :=
    List.mem_map.2 ⟨x.val, by simp, by rw [get_idxF x.val x.isLt]⟩
  obtain ⟨p, hp1, hp2⟩ := List.mem_map.1 (hp.mem_iff.2 hm)
  exact ⟨p, by simpa using hp1, hp2⟩

theorem nodup_of_perm {d' : Array (Fin (k + 1))} (h : PermIn 0 (k + 1) (idxF k) d') (p q : Nat) (hpq : p < q) (hq : q < k + 1) : d'[p]! ≠ d'[q]! := by
  have hs : d'.size = k + 1 := h.1.trans size_idxF
  have e1 := extract_toList d' 0 (k + 1) (by omega)
  have e2 := extract_toList (idxF k) 0 (k + 1) (by rw [size_idxF]; omega)
  have hp := h.2.2
  rw [e1, e2] at hp
  have hn : ((List.range' 0 (k + 1 - 0)).map (fun i => (idxF k)[i]!)).Nodup := by
    rw [List.nodup_iff_pairwise_ne, List.pairwise_iff_getElem]
    intro i j hi hj hij
    simp only [List.length_map, List.length_range'] at hi hj
    simp only [List.getElem_map, List.getElem_range', Nat.zero_add, Nat.one_mul]
    rw [get_idxF i (by omega), get_idxF j (by omega)]
    intro e
    have := congrArg Fin.val e
    simp at this
    omega
  have hn' := (hp.nodup_iff).2 hn
  rw [List.nodup_iff_pairwise_ne, List.pairwise_iff_getElem] at hn'
  have := hn' p q (by simp; omega) (by simp; omega) hpq
  simpa using this

theorem order_of_sorted (rem : Nat → Nat) {d' : Array (Fin (k + 1))} (h : SortedTo (ordF fun j : Fin (k + 1) => rem j.val) 0 (k + 1) (idxF k) d') : OrderOk (k + 1) rem (fun p => (d'[p]!).val) := by
  refine ⟨fun p q hpq hq => ?_, fun x hx => ?_⟩
  · have hs := h.2 p q (Nat.zero_le _) hpq hq
    have hn := nodup_of_perm h.1 p q hpq hq
    simp only [ordF, decide_eq_false_iff_not] at hs
    have : (d'[p]!).val ≠ (d'[q]!).val := fun e => hn (Fin.ext e)
    show rem (d'[q]!).val < rem (d'[p]!).val ∨ rem (d'[p]!).val = rem (d'[q]!).val ∧ (d'[p]!).val < (d'[q]!).val
    omega
  · obtain ⟨p, hp, e⟩ := mem_of_perm h.1 ⟨x, hx⟩
    exact ⟨p, hp, by show (d'[p]!).val = x; rw [e]⟩

/-- Stable sorting of k + 1 indices is at hand for every n = k + 1 below. -/
theorem divide_any (n : Nat) (hn0 : 0 < n) (hn : n < 65) (hSt : StableSaid (n - 1)) (T S : Nat) (hT : T ≤ 1099511627776) (hS : S ≤ 1125899906842624) (hS0 : 0 < S) (ws : Nat → Nat) (hs : sumTo ws n = S) (wb wo wc : Nat) (w : World)
    (hD : ∀ j, j < n → DivOk (T * ws j) S) (hwb : wb < w.heap.size) (hw : ∀ j, j < n → w.cell? ⟨wb, wo + j, none⟩ = some (.int .i64 (ws j))) :
    Calls Try.prog 36 #[.int .i64 T, .slice (some ⟨wb, wo, none⟩) n wc, .int .i64 S] w fun e w' => e = .returned (.slice (some ⟨w.heap.size, 0, none⟩) n n) ∧ DivPost (OrderOk n (remF T S ws)) w n T S ws w' := by
  obtain ⟨k, rfl⟩ : ∃ k, n = k + 1 := ⟨n - 1, by omega⟩
  refine divide_of (k + 1) hn0 hn T S hT hS hS0 ws hs wb wo wc w _ (fun w2 P => ?_) hD hwb hw
  have h := greatest_any (k := k) hSt hn (fun j => remF T S ws j.val) (w.heap.size + 1) 0 (k + 1) w2 (by have := P.size; omega) (fun j => by
    rw [Nat.zero_add, P.rems.cell j.isLt]; simp [j.isLt])
  rw [← P.size] at h
  refine h.mono ?_
  rintro e w' ⟨rfl, hb, hz, d', hsd, hH⟩
  refine ⟨rfl, _, order_of_sorted _ hsd, hb, fun j hj => ⟨(d'[j]!).isLt, ?_⟩⟩
  have hsz : d'.size = k + 1 := hsd.1.1.trans size_idxF
  have := (hH j (by omega)).1
  rw [← P.size, Nat.zero_add] at this
  exact this

/-- Weights that are all right add up to at most so much. -/
theorem sumTo_bd (f : Nat → Nat) (M n : Nat) (h : ∀ j, j < n → f j ≤ M) : sumTo f n ≤ n * M := by
  induction n with
  | zero => simp [sumTo]
  | succ n ih =>
    have := ih fun j hj => h j (by omega)
    have := h n (by omega)
    rw [sumTo, Nat.add_mul]
    omega

theorem sumTo_zero (f : Nat → Nat) (n : Nat) (h : sumTo f n = 0) (j : Nat) (hj : j < n) : f j = 0 := by
  have := le_sumTo f hj
  omega

set_option maxHeartbeats 400000 in
theorem shares_ok (n : Nat) (hn0 : 0 < n) (hn : n < 65) (hSt : StableSaid (n - 1)) (T : Nat) (hT : T ≤ 1099511627776) (ws : Nat → Nat) (hws : ∀ j, j < n → ws j ≤ 1099511627776) (hS0 : 0 < sumTo ws n) (wb wo wc : Nat) (w : World)
    (hD : ∀ j, j < n → DivOk (T * ws j) (sumTo ws n)) (hwb : wb < w.heap.size) (hw : ∀ j, j < n → w.cell? ⟨wb, wo + j, none⟩ = some (.int .i64 (ws j))) :
    Calls Try.prog 23 #[.int .i64 T, .slice (some ⟨wb, wo, none⟩) n wc] w fun e w' => e = .returned (.tuple #[.slice (some ⟨w.heap.size, 0, none⟩) n n, .int .i64 0]) ∧ DivPost (OrderOk n (remF T (sumTo ws n) ws)) w n T (sumTo ws n) ws w' := by
  have hb := sumTo_bd ws 1099511627776 n hws
  have hb2 : sumTo ws n ≤ 1125899906842624 := by omega
  have hdv := divide_any n hn0 hn hSt T (sumTo ws n) hT hb2 hS0 ws rfl wb wo wc w hD hwb hw
  have HDV := Lib.hid hdv
  have hle : ∀ j, j ≤ n → sumTo ws j ≤ 1125899906842624 := fun j hj => Nat.le_trans (sumTo_le ws hj) hb2
  have HLE := Lib.hid hle
  have HWS := Lib.hid hws
  have HW := Lib.hid hw
  have HST := Lib.hid hSt
  clear hdv hle hws hw hD hSt hb
  have hT' : amtB (T : Int) = true := amtB_iff.2 ⟨by omega, by omega⟩
  have hnn : ¬ (64 : Int) < (n : Int) := by omega
  go_enter Try.func23, Try.ntmps23
  go_wp2_with (go_at_call 26; (with_reducible refine (amount_any _ _).mono ?_); rintro e w' ⟨rfl, rfl⟩)
  go_loop [6, 17] (fun s v => ∃ j : Nat, j ≤ n ∧ v = .int .i64 j ∧ s = .int .i64 (sumTo ws j : Nat)) (fun _ v => n - (intOf v).toNat)
  case atStart => exact ⟨0, Nat.zero_le _, rfl, rfl⟩
  case round =>
    obtain ⟨j, hj, rfl, rfl⟩ := hrel
    by_cases hlt : j < n
    · have hc := HW.out j hlt
      have h1 := HWS.out j hlt
      have h2 := HLE.out (j + 1) hlt
      have hs2 : sumTo ws (j + 1) = sumTo ws j + ws j := rfl
      rw [hs2] at h2
      have HS2 := Lib.hid hs2
      clear hs2
      have hA : amtB (ws j : Int) = true := amtB_iff.2 ⟨by omega, by omega⟩
      go_wp2_with (go_at_call 26; (with_reducible refine (amount_any _ _).mono ?_); rintro e w' ⟨rfl, rfl⟩)
      go_round
      case rel => exact ⟨j + 1, by omega, by go_num, by rw [HS2.out]; go_num⟩
      case measure => simp [intOf]; omega
    · obtain rfl : j = n := by omega
      have hne : ((sumTo ws j : Nat) : Int) ≠ 0 := by omega
      have hne2 : (((sumTo ws j : Nat) : Int) == 0) = false := beq_eq_false_iff_ne.2 hne
      go_wp2_with (go_at_call 36; (with_reducible refine (HDV.out).mono ?_); rintro e w' ⟨rfl, hQ⟩)
      go_ret2
      exact ⟨rfl, hQ⟩

end Go.Proofs.Ytdiogfjbjdiclaa
