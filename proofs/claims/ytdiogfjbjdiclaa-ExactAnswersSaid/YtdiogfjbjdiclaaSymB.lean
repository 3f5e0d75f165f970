/- slices.symMergeCmpFunc at ints: a second run of one element. -/
import Derived.Test.YtdiogfjbjdiclaaSymA
namespace Go.Proofs.Ytdiogfjbjdiclaa
open Go.RowKit Go.Sort Go.Shelf Go.Lib
variable {α : Type} [Inhabited α] {enc : α → Value} {w0 : World} {blk off : Nat} {d0 : Array α}

theorem two_lo {lt L : α → α → Bool} {a m b h : Nat} {d : Array α} (hR : Runs lt L a m b d) (hL : SWO L) (hbm : b = m + 1) (h1 : a ≤ h) (h2 : h < m) (hv : lt d[m]! d[h]! = false) : ∀ q, a ≤ q → q < h + 1 → lt d[m]! d[q]! = false := by
  intro q hq1 hq2
  rw [hR.agree q m hq1 (by omega) (Nat.le_refl _) (by omega)]
  rw [hR.agree h m h1 h2 (Nat.le_refl _) (by omega)] at hv
  by_cases e : q = h
  · rw [e]; exact hv
  · exact hL.ntrans _ _ _ hv (hR.left q h hq1 (by omega) h2)

theorem two_hi {lt L : α → α → Bool} {a m b h : Nat} {d : Array α} (hR : Runs lt L a m b d) (hL : SWO L) (hbm : b = m + 1) (h1 : a ≤ h) (h2 : h < m) (hv : lt d[m]! d[h]! = true) : ∀ q, h ≤ q → q < m → lt d[m]! d[q]! = true := by
  intro q hq1 hq2
  rw [hR.agree q m (by omega) hq2 (Nat.le_refl _) (by omega)]
  rw [hR.agree h m h1 h2 (Nat.le_refl _) (by omega)] at hv
  by_cases e : q = h
  · rw [e]; exact hv
  · refine Classical.byContradiction fun hn => ?_
    have hn' : L d[m]! d[q]! = false := by simpa using hn
    have := hL.ntrans _ _ _ hn' (hR.left h q h1 (by omega) hq2)
    rw [this] at hv
    cases hv

theorem two_start {m : Nat} {d : Array α} : RotTo d d m m (m + 1) :=
  ⟨rfl, fun _ _ => rfl, fun p h1 h2 => get_at d (by omega), fun p h1 h2 => by omega⟩

theorem two_step {m k : Nat} {d dk : Array α} (hkm : k < m) (hk : m < dk.size) (h : RotTo d dk (k + 1) m (m + 1)) : RotTo d (swp dk (k + 1) k) k m (m + 1) := by
  obtain ⟨h0, ho, hl, hr⟩ := h
  refine ⟨by rw [size_swp]; exact h0, fun p hp => ?_, fun p h1 h2 => ?_, fun p h1 h2 => ?_⟩
  · rw [swp_other _ _ _ _ (by omega) (by omega)]
    exact ho p (by omega)
  · obtain rfl : p = k := by omega
    rw [swp_right _ _ _ (by omega), hl (p + 1) (by omega) (by omega)]
    exact get_at d (by omega)
  · by_cases e : p = k + 1
    · subst e
      rw [swp_left _ _ _ (by omega) (by omega), ho k (by omega)]
      exact get_at d (by omega)
    · rw [swp_other _ _ _ _ e (by omega)]
      exact hr p (by omega) h2

theorem two_end {lt L : α → α → Bool} {a m b i : Nat} {d d' : Array α} (hR : Runs lt L a m b d) (hL : SWO L) (hbm : b = m + 1) (hai : a ≤ i) (him : i ≤ m) (hb : b ≤ d.size)
    (hA : ∀ q, a ≤ q → q < i → lt d[m]! d[q]! = false) (hB : ∀ q, i ≤ q → q < m → lt d[m]! d[q]! = true) (h : RotTo d d' i m (m + 1)) : SortedTo L a b d d' := by
  subst hbm
  have hC : CutAt L a m (m + 1) i (m + 1) d := ⟨fun x y _ _ h3 h4 => by omega, fun x y h1 h2 h3 h4 => by
    obtain rfl : y = m := by omega
    rw [← hR.agree x y (by omega) h2 h3 (by omega)]
    exact hB x h1 h2⟩
  have hx := cut_cross hL hai him (by omega) (by omega) hR hC h
  have f1 := runs_first hai him (by omega) (by omega) hR h
  have f2 := (runs_second hai him (by omega) (by omega) hR h).left
  refine ⟨permIn_mono d d' i (m + 1) a (m + 1) hai (by omega) hb (rot_perm him (by omega) (by omega) h), sorted_join (sorted_join f1.left f1.right ?_) f2 hx⟩
  intro p q h1 h2 h3 h4
  rw [h.2.2.1 q h3 h4, h.2.1 p (by omega)]
  rw [get_at d (show q + (m - i) = m by omega), ← hR.agree p m h1 (by omega) (Nat.le_refl _) (by omega)]
  exact hA p h1 h2

set_option maxHeartbeats 4000000 in
set_option maxRecDepth 100000 in
theorem sym_two (L : α → α → Bool) (hL : SWO L) (cf : α → α → Int) (gf : Nat) (cb : Array Value) (eg : ∀ args w, (callFunc gf args).run Try.prog w = .ok (.enter gf args) w) (hcmp : CmpLays1 Try.prog gf cb enc cf blk off d0.size w0)
    (R : Row1 enc w0 blk off d0) (cap a m b : Nat) (d : Array α) (w : World) (hs : d.size = d0.size) (S : SW enc w0 blk off d w) (ham : a + 1 < m) (hmb : b = m + 1) (hb : b ≤ d.size) (hsz : d.size < 1000000)
    (hR : Runs (ltOf cf) L a m b d) (Q : World → Prop) (hQ : ∀ d' w', SortedTo L a b d d' → SW enc w0 blk off d' w' → Q w') :
    Calls Try.prog 46 #[.slice (some ⟨blk, off, none⟩) d.size cap, .int .i64 a, .int .i64 m, .int .i64 b, .func (.func gf) #[] cb] w fun e w' => e = .returned (.tuple #[]) ∧ Q w' := by
  have mixed := mixedOrders
  have hcl0 := R.hO.cells
  simp only [Value.cells] at hcl0
  have hst := R.hO.store Try.prog
  have S0 : Aside (SW enc w0 blk off d w) := S
  have HC : Aside _ := hcmp
  have HQ : Aside _ := hQ
  have HR : Aside (Runs (ltOf cf) L a m b d) := hR
  have HL : Aside (SWO L) := hL
  clear S hcmp hQ hR hL
  have HBM := Lib.hid hmb
  have HS := Lib.hid hs
  clear hs
  have ht : (((m : Int) - (a : Int)) == 1) = false := beq_eq_false_iff_ne.2 (by omega)
  have ht2 : (b : Int) - (m : Int) = 1 := by omega
  have hmd : m < d.size := by omega
  clear hmb
  go_enter Try.func46, Try.ntmps46
  go_wp2
  go_loopg [14, 15] (m - a) (fun g vi vj wr => ∃ i j : Nat, vi = .int .i64 i ∧ vj = .int .i64 j ∧ a ≤ i ∧ i ≤ j ∧ j ≤ m ∧ j - i ≤ g ∧ Aside (SW enc w0 blk off d wr) ∧ Aside (∀ q, a ≤ q → q < i → ltOf cf d[m]! d[q]! = false) ∧ Aside (∀ q, j ≤ q → q < m → ltOf cf d[m]! d[q]! = true))
  case atStart => exact ⟨a, m, rfl, rfl, by omega, by omega, by omega, by omega, S0, (fun q h1 h2 => by omega), (fun q h1 h2 => by omega)⟩
  case round =>
    clear S0
    obtain ⟨i, j, rfl, rfl, hmi, hij, hjb, hg, S1, HA, HB⟩ := hrel
    by_cases hlt : i < j
    · have hltz : (i : Int) < (j : Int) := by omega
      have hn2 : (d.size : Int) < 1000000 := by omega
      have hj2 : (j : Int) ≤ (d.size : Int) := by omega
      go_wp2_with fail
      have eh : ((i : Int) + (j : Int)) / 2 = (((i + j) / 2 : Nat) : Int) := by omega
      simp only [eh]
      clear eh
      have hh1 : i ≤ (i + j) / 2 := by omega
      have hh2 : (i + j) / 2 < j := by omega
      generalize (i + j) / 2 = h at hh1 hh2 ⊢
      have ph : (0 : Int) ≤ (h : Int) := by omega
      have bh : (h : Int) < (d.size : Int) := by omega
      have pa : (0 : Int) ≤ (m : Int) := by omega
      have ba : (m : Int) < (d.size : Int) := by omega
      have la := S1.out.cl R HS.out m hmd
      have lb := S1.out.cl R HS.out h (by omega)
      obtain ⟨x, hx⟩ : ∃ x, x = d[m]! := ⟨_, rfl⟩
      obtain ⟨y, hy⟩ : ∃ x, x = d[h]! := ⟨_, rfl⟩
      rw [← hx] at la
      rw [← hy] at lb
      have hc := S1.out.cmp HC.out HS.out x y
      cases hlv : ltOf cf d[m]! d[h]! with
      | true =>
        have hv : cf x y < 0 := by rw [hx, hy]; exact of_decide_eq_true hlv
        have hd : decide (cf x y < 0) = true := decide_eq_true hv
        have HB2 : Aside (∀ q, h ≤ q → q < m → ltOf cf d[m]! d[q]! = true) := two_hi HR.out HL.out HBM.out (by omega) (by omega) hlv
        clear hx hy hlv
        go_quiet_grown (first | (go_at_fn gf; refine Calls.grown_of (hc _ _)))
        have S2 : Aside (SW enc w0 blk off d (grow (wr.drewN nq) osq)) := S1.out.grown nq osq
        clear la lb hc S1
        generalize grow (wr.drewN nq) osq = w2 at S2 ⊢
        clear nq osq
        go_wp2
        go_roundg (h - i)
        case measure => omega
        case rel => exact ⟨i, h, rfl, rfl, hmi, hh1, by omega, Nat.le_refl _, S2, HA, HB2⟩
      | false =>
        have hv : ¬ cf x y < 0 := by rw [hx, hy]; exact of_decide_eq_false hlv
        have hd : decide (cf x y < 0) = false := decide_eq_false hv
        have HA2 : Aside (∀ q, a ≤ q → q < h + 1 → ltOf cf d[m]! d[q]! = false) := two_lo HR.out HL.out HBM.out (by omega) (by omega) hlv
        clear hx hy hlv
        go_quiet_grown (first | (go_at_fn gf; refine Calls.grown_of (hc _ _)))
        have S2 : Aside (SW enc w0 blk off d (grow (wr.drewN nq) osq)) := S1.out.grown nq osq
        clear la lb hc S1
        generalize grow (wr.drewN nq) osq = w2 at S2 ⊢
        clear nq osq
        go_wp2
        go_roundg (j - (h + 1))
        case measure => omega
        case rel => exact ⟨h + 1, j, by go_num, rfl, by omega, by omega, hjb, Nat.le_refl _, S2, HA2, HB⟩
    · obtain rfl : i = j := by omega
      go_wp2
      go_loopg [17] (m - i) (fun g vk wr2 => ∃ (k : Nat) (dk : Array α), vk = .int .i64 k ∧ i ≤ k ∧ k ≤ m ∧ k - i ≤ g ∧ Aside (SW enc w0 blk off dk wr2) ∧ Aside (RotTo d dk k m (m + 1)))
      case atStart => exact ⟨m, d, rfl, hjb, Nat.le_refl _, Nat.le_refl _, S1, two_start⟩
      case round =>
        clear S1
        obtain ⟨k, dk, rfl, hik, hkm, hg2, S1, HT⟩ := hrel
        by_cases hkl : i < k
        · have hkz : (i : Int) < (k : Int) := by omega
          obtain ⟨kp, hkp⟩ : ∃ q, q + 1 = k := ⟨k - 1, by omega⟩
          have zk : (k : Int) = (kp : Int) + 1 := by omega
          have hkz' : (i : Int) < (kp : Int) + 1 := by omega
          have hn2 : (d.size : Int) < 1000000 := by omega
          have hsk : dk.size = d0.size := HT.out.1.trans HS.out
          have HSK := Lib.hid hsk
          clear hsk
          obtain ⟨iN, hiN⟩ : ∃ q, q = kp + 1 := ⟨_, rfl⟩
          obtain ⟨jN, hjN⟩ : ∃ q, q = kp := ⟨_, rfl⟩
          have hmk : m < dk.size := by have := HSK.out; have := HS.out; omega
          have hkd : kp + 1 < dk.size := by omega
          have HT2 : Aside (RotTo d (swp dk (kp + 1) kp) kp m (m + 1)) := two_step (by omega) hmk (hkp ▸ HT.out)
          have ea : ((kp : Int) + 1).toNat = iN := by omega
          have pa : (0 : Int) ≤ (kp : Int) + 1 := by omega
          have ba : (kp : Int) + 1 < (d.size : Int) := by omega
          have ra : IntKind.i64.wrap ((kp : Int) + 1) = (kp : Int) + 1 := by rw [IntKind.wrap_i64]; omega
          have ec : ((kp : Int)).toNat = jN := by omega
          have pc : (0 : Int) ≤ (kp : Int) := by omega
          have bc : (kp : Int) < (d.size : Int) := by omega
          have rc : IntKind.i64.wrap (kp : Int) = (kp : Int) := by rw [IntKind.wrap_i64]; omega
          obtain ⟨x, hx⟩ : ∃ x, x = dk[kp + 1]! := ⟨_, rfl⟩
          obtain ⟨y, hy⟩ : ∃ x, x = dk[kp]! := ⟨_, rfl⟩
          clear hkp hkl
          have S2 : Aside (SW enc w0 blk off (swp dk (kp + 1) kp) ((wr.setCell ⟨blk, off + iN, none⟩ (enc y)).setCell ⟨blk, off + jN, none⟩ (enc x)).drew) := by rw [hiN, hjN, hx, hy]; exact S1.out.swapped R (kp + 1) kp hkd (by omega)
          have ca := S1.out.c1 R HSK.out (kp + 1) hkd
          have cb := S1.out.c1 R HSK.out kp (by omega)
          have fa := S1.out.f1 R HSK.out (kp + 1) hkd
          have fb := S1.out.f1 R HSK.out kp (by omega)
          obtain ⟨u, cc⟩ := S1.out.c2 R HSK.out (kp + 1) kp hkd (by omega) (enc y)
          rw [← hiN, ← hjN] at cc
          rw [← hx, ← hiN] at ca
          rw [← hy, ← hjN] at cb
          rw [← hiN] at fa
          rw [← hjN] at fb
          clear S1 hx hy hiN hjN
          go_wp2_with fail
          go_big_region
          clear ca cb cc fa fb
          generalize ((wr.setCell ⟨blk, off + iN, none⟩ (enc y)).setCell ⟨blk, off + jN, none⟩ (enc x)).drew = w2 at S2 ⊢
          clear ea ec ra rc
          go_wp2
          go_roundg (kp - i)
          case measure => omega
          case rel => exact ⟨kp, swp dk (kp + 1) kp, by go_num, by omega, by omega, Nat.le_refl _, S2, HT2⟩
        · obtain rfl : i = k := by omega
          have hn2 : (d.size : Int) < 1000000 := by omega
          have hfin : SortedTo L a b d dk := two_end HR.out HL.out HBM.out hmi hjb hb HA.out HB.out HT.out
          have HF := Lib.hid hfin
          clear hfin
          go_wp2
          exact bodyPost_ret (v := .tuple #[]) (by simp [results, Try.results46, go_sem]) rfl ⟨rfl, HQ.out _ _ HF.out S1.out⟩

end Go.Proofs.Ytdiogfjbjdiclaa
