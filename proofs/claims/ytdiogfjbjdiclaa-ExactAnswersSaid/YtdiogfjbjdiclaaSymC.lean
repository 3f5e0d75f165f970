/- slices.symMergeCmpFunc at ints: two runs of two elements or more. -/
import Derived.Test.YtdiogfjbjdiclaaSymB
namespace Go.Proofs.Ytdiogfjbjdiclaa
open Go.RowKit Go.Sort Go.Shelf Go.Lib
variable {α : Type} [Inhabited α] {enc : α → Value} {w0 : World} {blk off : Nat} {d0 : Array α}

/-- The binary search of the cut, from lo to hi, over n = mid + m: what is known of its ends. -/
structure Ends (a m b n lo hi : Nat) : Prop where
  lo1 : a ≤ lo
  lohi : lo ≤ hi
  hi1 : hi ≤ m
  up : m ≤ n - hi
  dn : n - lo ≤ b
  hin : hi ≤ n
  e1 : lo = a ∨ n - lo = b
  e2 : hi = m ∨ n - hi = m

theorem ends_right {a m b : Nat} (ham : a + 1 < m) (hmb : m + 1 < b) (h : (a + b) / 2 < m) : Ends a m b ((a + b) / 2 + m) ((a + b) / 2 + m - b) ((a + b) / 2) :=
  ⟨by omega, by omega, by omega, by omega, by omega, by omega, by omega, by omega⟩
theorem ends_left {a m b : Nat} (ham : a + 1 < m) (hmb : m + 1 < b) (h : m ≤ (a + b) / 2) : Ends a m b ((a + b) / 2 + m) a m :=
  ⟨by omega, by omega, by omega, by omega, by omega, by omega, by omega, by omega⟩

theorem seek_lo {lt L : α → α → Bool} {a m b n lo hi c : Nat} {d : Array α} (hR : Runs lt L a m b d) (hL : SWO L) (hE : Ends a m b n lo hi) (h1 : lo ≤ c) (h2 : c < hi) (hv : lt d[n - 1 - c]! d[c]! = false) :
    ∀ q, lo ≤ q → q < c + 1 → lt d[n - 1 - q]! d[q]! = false := by
  intro q hq1 hq2
  obtain ⟨l1, l2, l3, l4, l5, l6, _, _⟩ := hE
  rw [hR.agree q _ (by omega) (by omega) (by omega) (by omega)]
  rw [hR.agree c _ (by omega) (by omega) (by omega) (by omega)] at hv
  by_cases e : q = c
  · rw [e]; exact hv
  · exact hL.ntrans _ _ _ (hR.right (n - 1 - c) (n - 1 - q) (by omega) (by omega) (by omega)) (hL.ntrans _ _ _ hv (hR.left q c (by omega) (by omega) (by omega)))

theorem seek_hi {lt L : α → α → Bool} {a m b n lo hi c : Nat} {d : Array α} (hR : Runs lt L a m b d) (hL : SWO L) (hE : Ends a m b n lo hi) (h1 : lo ≤ c) (h2 : c < hi) (hv : lt d[n - 1 - c]! d[c]! = true) :
    ∀ q, c ≤ q → q < hi → lt d[n - 1 - q]! d[q]! = true := by
  intro q hq1 hq2
  obtain ⟨l1, l2, l3, l4, l5, l6, _, _⟩ := hE
  rw [hR.agree q _ (by omega) (by omega) (by omega) (by omega)]
  rw [hR.agree c _ (by omega) (by omega) (by omega) (by omega)] at hv
  by_cases e : q = c
  · rw [e]; exact hv
  · refine Classical.byContradiction fun hn => ?_
    have hn' : L d[n - 1 - q]! d[q]! = false := by simpa using hn
    have := hL.ntrans _ _ _ (hR.right (n - 1 - q) (n - 1 - c) (by omega) (by omega) (by omega)) (hL.ntrans _ _ _ hn' (hR.left c q (by omega) (by omega) (by omega)))
    rw [this] at hv
    cases hv

theorem seek_cut {lt L : α → α → Bool} {a m b n lo hi s : Nat} {d : Array α} (hR : Runs lt L a m b d) (hL : SWO L) (hE : Ends a m b n lo hi) (h1 : lo ≤ s) (h2 : s ≤ hi)
    (hA : ∀ q, lo ≤ q → q < s → lt d[n - 1 - q]! d[q]! = false) (hB : ∀ q, s ≤ q → q < hi → lt d[n - 1 - q]! d[q]! = true) : CutAt L a m b s (n - s) d := by
  obtain ⟨l1, l2, l3, l4, l5, l6, l7, l8⟩ := hE
  constructor
  · intro x y hx1 hx2 hy1 hy2
    have hs : lo < s := by omega
    have hv := hA (s - 1) (by omega) (by omega)
    rw [hR.agree (s - 1) _ (by omega) (by omega) (by omega) (by omega)] at hv
    have g1 : L d[s - 1]! d[x]! = false := by
      by_cases e : x = s - 1
      · rw [e]; exact hL.irrefl _
      · exact hR.left x (s - 1) hx1 (by omega) (by omega)
    have g2 : L d[y]! d[n - 1 - (s - 1)]! = false := by
      by_cases e : y = n - 1 - (s - 1)
      · rw [e]; exact hL.irrefl _
      · exact hR.right _ y (by omega) (by omega) hy2
    exact hL.ntrans _ _ _ g2 (hL.ntrans _ _ _ hv g1)
  · intro x y hx1 hx2 hy1 hy2
    have hs : s < hi := by omega
    have hv := hB s (Nat.le_refl _) hs
    rw [hR.agree s _ (by omega) (by omega) (by omega) (by omega)] at hv
    refine Classical.byContradiction fun hn => ?_
    have hn' : L d[y]! d[x]! = false := by simpa using hn
    have g1 : L d[x]! d[s]! = false := by
      by_cases e : x = s
      · rw [e]; exact hL.irrefl _
      · exact hR.left s x (by omega) (by omega) hx2
    have g2 : L d[n - 1 - s]! d[y]! = false := by
      by_cases e : y = n - 1 - s
      · rw [e]; exact hL.irrefl _
      · exact hR.right y _ hy1 (by omega) (by omega)
    have := hL.ntrans _ _ _ g2 (hL.ntrans _ _ _ hn' g1)
    rw [this] at hv
    cases hv

/-- What comes behind the search: a rotation, and a merge of each half, where they are needed. -/
def Tail (enc : α → Value) (w0 : World) (blk off n cap : Nat) (fv : Value) (a m b M : Nat) (d : Array α) (Q : World → Prop) (s e : Nat) : Prop :=
  ∃ Q1 Q2 : World → Prop,
    (∀ w1, SW enc w0 blk off d w1 → (s < m → m < e → Calls Try.prog 47 #[.slice (some ⟨blk, off, none⟩) n cap, .int .i64 s, .int .i64 m, .int .i64 e, fv] w1 fun x w' => x = .returned (.tuple #[]) ∧ Q1 w') ∧ (s = m ∨ e = m → Q1 w1)) ∧
    (∀ w1, Q1 w1 → (a < s → s < M → Calls Try.prog 46 #[.slice (some ⟨blk, off, none⟩) n cap, .int .i64 a, .int .i64 s, .int .i64 M, fv] w1 fun x w' => x = .returned (.tuple #[]) ∧ Q2 w') ∧ (s = a ∨ s = M → Q2 w1)) ∧
    (∀ w1, Q2 w1 → (M < e → e < b → Calls Try.prog 46 #[.slice (some ⟨blk, off, none⟩) n cap, .int .i64 M, .int .i64 e, .int .i64 b, fv] w1 fun x w' => x = .returned (.tuple #[]) ∧ Q w') ∧ (e = M ∨ e = b → Q w1))

set_option maxHeartbeats 8000000 in
set_option maxRecDepth 100000 in
theorem sym_three (L : α → α → Bool) (hL : SWO L) (cf : α → α → Int) (gf : Nat) (cb : Array Value) (eg : ∀ args w, (callFunc gf args).run Try.prog w = .ok (.enter gf args) w) (hcmp : CmpLays1 Try.prog gf cb enc cf blk off d0.size w0)
    (R : Row1 enc w0 blk off d0) (cap a m b : Nat) (d : Array α) (w : World) (hs : d.size = d0.size) (S : SW enc w0 blk off d w) (ham : a + 1 < m) (hmb : m + 1 < b) (hb : b ≤ d.size) (hsz : d.size < 1000000)
    (hR : Runs (ltOf cf) L a m b d) (Q : World → Prop)
    (M : Nat) (hM : M = (a + b) / 2)
    (hT : ∀ s e, a ≤ s → s ≤ m → m ≤ e → e ≤ b → s + e = M + m → CutAt L a m b s e d → Tail enc w0 blk off d.size cap (.func (.func gf) #[] cb) a m b M d Q s e) :
    Calls Try.prog 46 #[.slice (some ⟨blk, off, none⟩) d.size cap, .int .i64 a, .int .i64 m, .int .i64 b, .func (.func gf) #[] cb] w fun e w' => e = .returned (.tuple #[]) ∧ Q w' := by
  have mixed := mixedOrders
  have hcl0 := R.hO.cells
  simp only [Value.cells] at hcl0
  have hst := R.hO.store Try.prog
  have S0 : Aside (SW enc w0 blk off d w) := S
  have HC : Aside _ := hcmp
  have HT : Aside _ := hT
  have HR : Aside (Runs (ltOf cf) L a m b d) := hR
  have HL : Aside (SWO L) := hL
  have HS := Lib.hid hs
  clear S hcmp hT hR hL hs
  have ht : (((m : Int) - (a : Int)) == 1) = false := beq_eq_false_iff_ne.2 (by omega)
  have ht2 : (((b : Int) - (m : Int)) == 1) = false := beq_eq_false_iff_ne.2 (by omega)
  have hbz : (b : Int) < 1000000 := by omega
  have hmz : (m : Int) < 1000000 := by omega
  have eM : ((a : Int) + (b : Int)) / 2 = (M : Int) := by omega
  have hMa : a + 2 ≤ M := by omega
  have hMb : M + 2 ≤ b := by omega
  have HM := Lib.hid hM
  clear hM
  by_cases hc : M < m
  · have hcz : (M : Int) < (m : Int) := by omega
    have hE : Ends a m b (M + m) (M + m - b) M := by
      have h := ends_right ham hmb (by rw [← HM.out]; exact hc)
      rw [← HM.out] at h; exact h
    go_enter Try.func46, Try.ntmps46
    go_wp2
    have z0 : (M : Int) + (m : Int) - (b : Int) = ((M + m - b : Nat) : Int) := by have := hE.lo1; omega
    rw [z0]
    clear z0 hc hcz
    generalize M + m - b = lo at hE ⊢
    go_loopg [20, 21] (M - lo) (fun g vi vj wr => ∃ i j : Nat, vi = .int .i64 i ∧ vj = .int .i64 j ∧ lo ≤ i ∧ i ≤ j ∧ j ≤ M ∧ j - i ≤ g ∧ Aside (SW enc w0 blk off d wr) ∧ Aside (∀ q, lo ≤ q → q < i → ltOf cf d[M + m - 1 - q]! d[q]! = false) ∧ Aside (∀ q, j ≤ q → q < M → ltOf cf d[M + m - 1 - q]! d[q]! = true))
    case atStart => exact ⟨lo, M, rfl, rfl, Nat.le_refl _, hE.lohi, Nat.le_refl _, Nat.le_refl _, S0, (fun q h1 h2 => by omega), (fun q h1 h2 => by omega)⟩
    case round =>
      clear S0
      obtain ⟨i, j, rfl, rfl, hmi, hij, hjb, hg, S1, HA, HB⟩ := hrel
      have l1 := hE.lo1
      have l2 := hE.hi1
      have l3 := hE.up
      have l4 := hE.dn
      have l5 := hE.hin
      by_cases hlt : i < j
      · have hltz : (i : Int) < (j : Int) := by omega
        have hn2 : (d.size : Int) < 1000000 := by omega
        have hj2 : (j : Int) ≤ (d.size : Int) := by omega
        go_wp2_with fail
        have eh : ((i : Int) + (j : Int)) / 2 = (((i + j) / 2 : Nat) : Int) := by omega
        simp only [eh]
        clear eh
        have hh1 : i ≤ (i + j) / 2 := by omega
        have hh2 : (i + j) / 2 < j := by omega
        generalize (i + j) / 2 = h at hh1 hh2 ⊢
        have ph : (0 : Int) ≤ (h : Int) := by omega
        have bh : (h : Int) < (d.size : Int) := by omega
        obtain ⟨pc, hpc⟩ : ∃ pc, pc = M + m - 1 - h := ⟨_, rfl⟩
        have zpc : (M : Int) + (m : Int) - 1 - (h : Int) = (pc : Int) := by omega
        have rpc : IntKind.i64.wrap ((M : Int) + (m : Int) - 1 - (h : Int)) = (pc : Int) := by rw [IntKind.wrap_i64]; omega
        have rpc2 : IntKind.i64.wrap (pc : Int) = (pc : Int) := by rw [IntKind.wrap_i64]; omega
        have pa : (0 : Int) ≤ (pc : Int) := by omega
        have ba : (pc : Int) < (d.size : Int) := by omega
        have la := S1.out.cl R HS.out pc (by omega)
        have lb := S1.out.cl R HS.out h (by omega)
        obtain ⟨x, hx⟩ : ∃ x, x = d[pc]! := ⟨_, rfl⟩
        obtain ⟨y, hy⟩ : ∃ x, x = d[h]! := ⟨_, rfl⟩
        rw [← hx] at la
        rw [← hy] at lb
        have hc := S1.out.cmp HC.out HS.out x y
        cases hlv : ltOf cf d[pc]! d[h]! with
        | true =>
          have hv : cf x y < 0 := by rw [hx, hy]; exact of_decide_eq_true hlv
          have hd : decide (cf x y < 0) = true := decide_eq_true hv
          have HB2 : Aside (∀ q, h ≤ q → q < M → ltOf cf d[M + m - 1 - q]! d[q]! = true) := seek_hi HR.out HL.out hE (by omega) (by omega) (hpc ▸ hlv)
          clear hx hy hlv hpc
          go_quiet_grown (first | (go_at_fn gf; refine Calls.grown_of (hc _ _)))
          have S2 : Aside (SW enc w0 blk off d (grow (wr.drewN nq) osq)) := S1.out.grown nq osq
          clear la lb hc S1
          generalize grow (wr.drewN nq) osq = w2 at S2 ⊢
          clear nq osq rpc rpc2 zpc
          go_wp2
          go_roundg (h - i)
          case measure => omega
          case rel => exact ⟨i, h, rfl, rfl, hmi, hh1, by omega, Nat.le_refl _, S2, HA, HB2⟩
        | false =>
          have hv : ¬ cf x y < 0 := by rw [hx, hy]; exact of_decide_eq_false hlv
          have hd : decide (cf x y < 0) = false := decide_eq_false hv
          have HA2 : Aside (∀ q, lo ≤ q → q < h + 1 → ltOf cf d[M + m - 1 - q]! d[q]! = false) := seek_lo HR.out HL.out hE (by omega) (by omega) (hpc ▸ hlv)
          clear hx hy hlv hpc
          go_quiet_grown (first | (go_at_fn gf; refine Calls.grown_of (hc _ _)))
          have S2 : Aside (SW enc w0 blk off d (grow (wr.drewN nq) osq)) := S1.out.grown nq osq
          clear la lb hc S1
          generalize grow (wr.drewN nq) osq = w2 at S2 ⊢
          clear nq osq rpc rpc2 zpc
          go_wp2
          go_roundg (j - (h + 1))
          case measure => omega
          case rel => exact ⟨h + 1, j, by go_num, rfl, by omega, by omega, hjb, Nat.le_refl _, S2, HA2, HB⟩
      · obtain rfl : i = j := by omega
        have hcut := seek_cut HR.out HL.out hE hmi hjb HA.out HB.out
        obtain ⟨e, he⟩ : ∃ e, e = M + m - i := ⟨_, rfl⟩
        rw [← he] at hcut
        have hse : i + e = M + m := by omega
        have him : i ≤ m := by omega
        have hme : m ≤ e := by omega
        have heb : e ≤ b := by omega
        obtain ⟨Q1, Q2, hq1, hq2, hq3⟩ := HT.out i e (by omega) him hme heb hse hcut
        have hq1' := hq1 _ S1.out
        have HQ1 := Lib.hid hq1'
        have HQ2 := Lib.hid hq2
        have HQ3 := Lib.hid hq3
        have ze : (M : Int) + (m : Int) - (i : Int) = (e : Int) := by omega
        have hai : a ≤ i := by omega
        clear hq1 hq1' hq2 hq3 hcut he S1 HA HB HT hlt
        by_cases h1 : i < m
        · have z1 : (i : Int) < (m : Int) := by omega
          by_cases h2 : m < e
          · have z2 : (m : Int) < (e : Int) := by omega
            have z4 : (i : Int) < (M : Int) := by omega
            have z5 : (M : Int) < (e : Int) := by omega
            by_cases h3 : a < i
            · have z3 : (a : Int) < (i : Int) := by omega
              by_cases h6 : e < b
              · have z6 : (e : Int) < (b : Int) := by omega
                go_wp2_with (first | (go_at_call 47; (with_reducible refine (HQ1.out.1 h1 h2).mono ?_); rintro x w1 ⟨rfl, k1⟩) | (go_at_call 46; (with_reducible refine ((HQ2.out _ k1).1 (by omega) (by omega)).mono ?_); rintro x w2 ⟨rfl, k2⟩) | (go_at_call 46; (with_reducible refine ((HQ3.out _ k2).1 (by omega) (by omega)).mono ?_); rintro x w3 ⟨rfl, k3⟩))
                go_end0
                exact ⟨rfl, k3⟩
              · have z6 : ¬ (e : Int) < (b : Int) := by omega
                go_wp2_with (first | (go_at_call 47; (with_reducible refine (HQ1.out.1 h1 h2).mono ?_); rintro x w1 ⟨rfl, k1⟩) | (go_at_call 46; (with_reducible refine ((HQ2.out _ k1).1 (by omega) (by omega)).mono ?_); rintro x w2 ⟨rfl, k2⟩; have k3 := (HQ3.out _ k2).2 (by omega)))
                go_end0
                exact ⟨rfl, k3⟩
            · have z3 : ¬ (a : Int) < (i : Int) := by omega
              by_cases h6 : e < b
              · have z6 : (e : Int) < (b : Int) := by omega
                go_wp2_with (first | (go_at_call 47; (with_reducible refine (HQ1.out.1 h1 h2).mono ?_); rintro x w1 ⟨rfl, k1⟩; have k2 := (HQ2.out _ k1).2 (by omega)) | (go_at_call 46; (with_reducible refine ((HQ3.out _ k2).1 (by omega) (by omega)).mono ?_); rintro x w3 ⟨rfl, k3⟩))
                go_end0
                exact ⟨rfl, k3⟩
              · have z6 : ¬ (e : Int) < (b : Int) := by omega
                go_wp2_with (first | (go_at_call 47; (with_reducible refine (HQ1.out.1 h1 h2).mono ?_); rintro x w1 ⟨rfl, k1⟩; have k2 := (HQ2.out _ k1).2 (by omega); have k3 := (HQ3.out _ k2).2 (by omega)))
                go_end0
                exact ⟨rfl, k3⟩
          · obtain rfl : e = m := by omega
            obtain rfl : i = M := by omega
            have z3 : (a : Int) < (i : Int) := by omega
            have z6 : (e : Int) < (b : Int) := by omega
            clear ze eM
            have ze2 : (i : Int) + (e : Int) - (i : Int) = (e : Int) := by omega
            have k1 := HQ1.out.2 (by omega)
            have k2 := (HQ2.out _ k1).2 (by omega)
            have k3 := (HQ3.out _ k2).1 (by omega) (by omega)
            have K3 := Lib.hid k3
            clear k1 k2 k3 HQ1 HQ2 HQ3 hse him hme heb hmi hjb l1 l2 l3 l4 l5 hE
            go_wp2_with fail
            refine (K3.out).mono ?_
            rintro x w3 ⟨rfl, k3⟩
            go_wp2_with fail
            go_end0
            exact ⟨rfl, k3⟩
        · have z1 : ¬ (i : Int) < (m : Int) := by omega
          have z3 : (a : Int) < (i : Int) := by omega
          have z5 : ¬ (M : Int) < (e : Int) := by omega
          by_cases h4 : i < M
          · have k1 := HQ1.out.2 (by omega)
            have k2 := (HQ2.out _ k1).1 (by omega) (by omega)
            have K2 := Lib.hid k2
            have k3 := fun w1 k => (HQ3.out w1 k).2 (by omega)
            have K3 := Lib.hid k3
            obtain rfl : i = m := by omega
            obtain rfl : e = M := by omega
            have z4 : (i : Int) < (e : Int) := by omega
            clear z1 z5 ze eM HQ1 HQ2 HQ3 hse him hme heb hmi hjb l1 l2 l3 l4 l5 hE h1 h4 k1 k2 k3
            have ze2 : (e : Int) + (i : Int) - (i : Int) = (e : Int) := by omega
            go_wp2_with fail
            refine (K2.out).mono ?_
            rintro x w2 ⟨rfl, k2⟩
            have k3 := K3.out _ k2
            go_wp2_with fail
            go_end0
            exact ⟨rfl, k3⟩
          · have k1 := HQ1.out.2 (by omega)
            have k2 := (HQ2.out _ k1).2 (by omega)
            have k3 := (HQ3.out _ k2).2 (by omega)
            obtain rfl : e = m := by omega
            obtain rfl : i = e := by omega
            obtain rfl : M = i := by omega
            clear z1 z5 ze eM HQ1 HQ2 HQ3 hse him hme heb hmi hjb l1 l2 l3 l4 l5 hE h1 h4
            have ze2 : (M : Int) + (M : Int) - (M : Int) = (M : Int) := by omega
            go_wp2
            go_end0
            exact ⟨rfl, k3⟩
  · have hcz : ¬ (M : Int) < (m : Int) := by omega
    have hE : Ends a m b (M + m) a m := by
      have h := ends_left ham hmb (by rw [← HM.out]; omega)
      rw [← HM.out] at h; exact h
    go_enter Try.func46, Try.ntmps46
    go_wp2
    clear hc hcz
    go_loopg [20, 21] (m - a) (fun g vi vj wr => ∃ i j : Nat, vi = .int .i64 i ∧ vj = .int .i64 j ∧ a ≤ i ∧ i ≤ j ∧ j ≤ m ∧ j - i ≤ g ∧ Aside (SW enc w0 blk off d wr) ∧ Aside (∀ q, a ≤ q → q < i → ltOf cf d[M + m - 1 - q]! d[q]! = false) ∧ Aside (∀ q, j ≤ q → q < m → ltOf cf d[M + m - 1 - q]! d[q]! = true))
    case atStart => exact ⟨a, m, rfl, rfl, Nat.le_refl _, hE.lohi, Nat.le_refl _, Nat.le_refl _, S0, (fun q h1 h2 => by omega), (fun q h1 h2 => by omega)⟩
    case round =>
      clear S0
      obtain ⟨i, j, rfl, rfl, hmi, hij, hjb, hg, S1, HA, HB⟩ := hrel
      have l1 := hE.lo1
      have l2 := hE.hi1
      have l3 := hE.up
      have l4 := hE.dn
      have l5 := hE.hin
      by_cases hlt : i < j
      · have hltz : (i : Int) < (j : Int) := by omega
        have hn2 : (d.size : Int) < 1000000 := by omega
        have hj2 : (j : Int) ≤ (d.size : Int) := by omega
        go_wp2_with fail
        have eh : ((i : Int) + (j : Int)) / 2 = (((i + j) / 2 : Nat) : Int) := by omega
        simp only [eh]
        clear eh
        have hh1 : i ≤ (i + j) / 2 := by omega
        have hh2 : (i + j) / 2 < j := by omega
        generalize (i + j) / 2 = h at hh1 hh2 ⊢
        have ph : (0 : Int) ≤ (h : Int) := by omega
        have bh : (h : Int) < (d.size : Int) := by omega
        obtain ⟨pc, hpc⟩ : ∃ pc, pc = M + m - 1 - h := ⟨_, rfl⟩
        have zpc : (M : Int) + (m : Int) - 1 - (h : Int) = (pc : Int) := by omega
        have rpc : IntKind.i64.wrap ((M : Int) + (m : Int) - 1 - (h : Int)) = (pc : Int) := by rw [IntKind.wrap_i64]; omega
        have rpc2 : IntKind.i64.wrap (pc : Int) = (pc : Int) := by rw [IntKind.wrap_i64]; omega
        have pa : (0 : Int) ≤ (pc : Int) := by omega
        have ba : (pc : Int) < (d.size : Int) := by omega
        have la := S1.out.cl R HS.out pc (by omega)
        have lb := S1.out.cl R HS.out h (by omega)
        obtain ⟨x, hx⟩ : ∃ x, x = d[pc]! := ⟨_, rfl⟩
        obtain ⟨y, hy⟩ : ∃ x, x = d[h]! := ⟨_, rfl⟩
        rw [← hx] at la
        rw [← hy] at lb
        have hc := S1.out.cmp HC.out HS.out x y
        cases hlv : ltOf cf d[pc]! d[h]! with
        | true =>
          have hv : cf x y < 0 := by rw [hx, hy]; exact of_decide_eq_true hlv
          have hd : decide (cf x y < 0) = true := decide_eq_true hv
          have HB2 : Aside (∀ q, h ≤ q → q < m → ltOf cf d[M + m - 1 - q]! d[q]! = true) := seek_hi HR.out HL.out hE (by omega) (by omega) (hpc ▸ hlv)
          clear hx hy hlv hpc
          go_quiet_grown (first | (go_at_fn gf; refine Calls.grown_of (hc _ _)))
          have S2 : Aside (SW enc w0 blk off d (grow (wr.drewN nq) osq)) := S1.out.grown nq osq
          clear la lb hc S1
          generalize grow (wr.drewN nq) osq = w2 at S2 ⊢
          clear nq osq rpc rpc2 zpc
          go_wp2
          go_roundg (h - i)
          case measure => omega
          case rel => exact ⟨i, h, rfl, rfl, hmi, hh1, by omega, Nat.le_refl _, S2, HA, HB2⟩
        | false =>
          have hv : ¬ cf x y < 0 := by rw [hx, hy]; exact of_decide_eq_false hlv
          have hd : decide (cf x y < 0) = false := decide_eq_false hv
          have HA2 : Aside (∀ q, a ≤ q → q < h + 1 → ltOf cf d[M + m - 1 - q]! d[q]! = false) := seek_lo HR.out HL.out hE (by omega) (by omega) (hpc ▸ hlv)
          clear hx hy hlv hpc
          go_quiet_grown (first | (go_at_fn gf; refine Calls.grown_of (hc _ _)))
          have S2 : Aside (SW enc w0 blk off d (grow (wr.drewN nq) osq)) := S1.out.grown nq osq
          clear la lb hc S1
          generalize grow (wr.drewN nq) osq = w2 at S2 ⊢
          clear nq osq rpc rpc2 zpc
          go_wp2
          go_roundg (j - (h + 1))
          case measure => omega
          case rel => exact ⟨h + 1, j, by go_num, rfl, by omega, by omega, hjb, Nat.le_refl _, S2, HA2, HB⟩
      · obtain rfl : i = j := by omega
        have hcut := seek_cut HR.out HL.out hE hmi hjb HA.out HB.out
        obtain ⟨e, he⟩ : ∃ e, e = M + m - i := ⟨_, rfl⟩
        rw [← he] at hcut
        have hse : i + e = M + m := by omega
        have him : i ≤ m := by omega
        have hme : m ≤ e := by omega
        have heb : e ≤ b := by omega
        obtain ⟨Q1, Q2, hq1, hq2, hq3⟩ := HT.out i e (by omega) him hme heb hse hcut
        have hq1' := hq1 _ S1.out
        have HQ1 := Lib.hid hq1'
        have HQ2 := Lib.hid hq2
        have HQ3 := Lib.hid hq3
        have ze : (M : Int) + (m : Int) - (i : Int) = (e : Int) := by omega
        have hai : a ≤ i := by omega
        clear hq1 hq1' hq2 hq3 hcut he S1 HA HB HT hlt
        by_cases h1 : i < m
        · have z1 : (i : Int) < (m : Int) := by omega
          by_cases h2 : m < e
          · have z2 : (m : Int) < (e : Int) := by omega
            have z4 : (i : Int) < (M : Int) := by omega
            have z5 : (M : Int) < (e : Int) := by omega
            by_cases h3 : a < i
            · have z3 : (a : Int) < (i : Int) := by omega
              by_cases h6 : e < b
              · have z6 : (e : Int) < (b : Int) := by omega
                go_wp2_with (first | (go_at_call 47; (with_reducible refine (HQ1.out.1 h1 h2).mono ?_); rintro x w1 ⟨rfl, k1⟩) | (go_at_call 46; (with_reducible refine ((HQ2.out _ k1).1 (by omega) (by omega)).mono ?_); rintro x w2 ⟨rfl, k2⟩) | (go_at_call 46; (with_reducible refine ((HQ3.out _ k2).1 (by omega) (by omega)).mono ?_); rintro x w3 ⟨rfl, k3⟩))
                go_end0
                exact ⟨rfl, k3⟩
              · have z6 : ¬ (e : Int) < (b : Int) := by omega
                go_wp2_with (first | (go_at_call 47; (with_reducible refine (HQ1.out.1 h1 h2).mono ?_); rintro x w1 ⟨rfl, k1⟩) | (go_at_call 46; (with_reducible refine ((HQ2.out _ k1).1 (by omega) (by omega)).mono ?_); rintro x w2 ⟨rfl, k2⟩; have k3 := (HQ3.out _ k2).2 (by omega)))
                go_end0
                exact ⟨rfl, k3⟩
            · have z3 : ¬ (a : Int) < (i : Int) := by omega
              by_cases h6 : e < b
              · have z6 : (e : Int) < (b : Int) := by omega
                go_wp2_with (first | (go_at_call 47; (with_reducible refine (HQ1.out.1 h1 h2).mono ?_); rintro x w1 ⟨rfl, k1⟩; have k2 := (HQ2.out _ k1).2 (by omega)) | (go_at_call 46; (with_reducible refine ((HQ3.out _ k2).1 (by omega) (by omega)).mono ?_); rintro x w3 ⟨rfl, k3⟩))
                go_end0
                exact ⟨rfl, k3⟩
              · have z6 : ¬ (e : Int) < (b : Int) := by omega
                go_wp2_with (first | (go_at_call 47; (with_reducible refine (HQ1.out.1 h1 h2).mono ?_); rintro x w1 ⟨rfl, k1⟩; have k2 := (HQ2.out _ k1).2 (by omega); have k3 := (HQ3.out _ k2).2 (by omega)))
                go_end0
                exact ⟨rfl, k3⟩
          · obtain rfl : e = m := by omega
            obtain rfl : i = M := by omega
            have z3 : (a : Int) < (i : Int) := by omega
            have z6 : (e : Int) < (b : Int) := by omega
            clear ze eM
            have ze2 : (i : Int) + (e : Int) - (i : Int) = (e : Int) := by omega
            have k1 := HQ1.out.2 (by omega)
            have k2 := (HQ2.out _ k1).2 (by omega)
            have k3 := (HQ3.out _ k2).1 (by omega) (by omega)
            have K3 := Lib.hid k3
            clear k1 k2 k3 HQ1 HQ2 HQ3 hse him hme heb hmi hjb l1 l2 l3 l4 l5 hE
            go_wp2_with fail
            refine (K3.out).mono ?_
            rintro x w3 ⟨rfl, k3⟩
            go_wp2_with fail
            go_end0
            exact ⟨rfl, k3⟩
        · have z1 : ¬ (i : Int) < (m : Int) := by omega
          have z3 : (a : Int) < (i : Int) := by omega
          have z5 : ¬ (M : Int) < (e : Int) := by omega
          by_cases h4 : i < M
          · have k1 := HQ1.out.2 (by omega)
            have k2 := (HQ2.out _ k1).1 (by omega) (by omega)
            have K2 := Lib.hid k2
            have k3 := fun w1 k => (HQ3.out w1 k).2 (by omega)
            have K3 := Lib.hid k3
            obtain rfl : i = m := by omega
            obtain rfl : e = M := by omega
            have z4 : (i : Int) < (e : Int) := by omega
            clear z1 z5 ze eM HQ1 HQ2 HQ3 hse him hme heb hmi hjb l1 l2 l3 l4 l5 hE h1 h4 k1 k2 k3
            have ze2 : (e : Int) + (i : Int) - (i : Int) = (e : Int) := by omega
            go_wp2_with fail
            refine (K2.out).mono ?_
            rintro x w2 ⟨rfl, k2⟩
            have k3 := K3.out _ k2
            go_wp2_with fail
            go_end0
            exact ⟨rfl, k3⟩
          · have k1 := HQ1.out.2 (by omega)
            have k2 := (HQ2.out _ k1).2 (by omega)
            have k3 := (HQ3.out _ k2).2 (by omega)
            obtain rfl : e = m := by omega
            obtain rfl : i = e := by omega
            obtain rfl : M = i := by omega
            clear z1 z5 ze eM HQ1 HQ2 HQ3 hse him hme heb hmi hjb l1 l2 l3 l4 l5 hE h1 h4
            have ze2 : (M : Int) + (M : Int) - (M : Int) = (M : Int) := by omega
            go_wp2
            go_end0
            exact ⟨rfl, k3⟩

end Go.Proofs.Ytdiogfjbjdiclaa
