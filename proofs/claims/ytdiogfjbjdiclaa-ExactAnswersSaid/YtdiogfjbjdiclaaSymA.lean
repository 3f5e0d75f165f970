/- slices.symMergeCmpFunc at ints: a first run of one element. -/
import Derived.Test.YtdiogfjbjdiclaaMerge
namespace Go.Proofs.Ytdiogfjbjdiclaa
open Go.RowKit Go.Sort Go.Shelf Go.Lib
variable {α : Type} [Inhabited α] {enc : α → Value} {w0 : World} {blk off : Nat} {d0 : Array α}

theorem sym_lo {lt L : α → α → Bool} {a m b h : Nat} {d : Array α} (hR : Runs lt L a m b d) (hL : SWO L) (ham : m = a + 1) (h1 : m ≤ h) (h2 : h < b) (hv : lt d[h]! d[a]! = true) : ∀ q, m ≤ q → q < h + 1 → lt d[q]! d[a]! = true := by
  intro q hq1 hq2
  rw [hR.agree a q (Nat.le_refl _) (by omega) hq1 (by omega)]
  rw [hR.agree a h (Nat.le_refl _) (by omega) h1 h2] at hv
  by_cases e : q = h
  · rw [e]; exact hv
  · have hs := hR.right q h hq1 (by omega) h2
    -- were q not less than a, neither would h be
    refine Classical.byContradiction fun hn => ?_
    have hn' : L d[q]! d[a]! = false := by simpa using hn
    have := hL.ntrans _ _ _ hs hn'
    rw [this] at hv
    cases hv

theorem sym_hi {lt L : α → α → Bool} {a m b h : Nat} {d : Array α} (hR : Runs lt L a m b d) (hL : SWO L) (ham : m = a + 1) (h1 : m ≤ h) (h2 : h < b) (hv : lt d[h]! d[a]! = false) : ∀ q, h ≤ q → q < b → lt d[q]! d[a]! = false := by
  intro q hq1 hq2
  rw [hR.agree a q (Nat.le_refl _) (by omega) (by omega) hq2]
  rw [hR.agree a h (Nat.le_refl _) (by omega) h1 h2] at hv
  by_cases e : q = h
  · rw [e]; exact hv
  · exact hL.ntrans _ _ _ (hR.right h q h1 (by omega) hq2) hv

theorem rot_start {a m : Nat} {d : Array α} (ham : m = a + 1) : RotTo d d a m (a + 1) :=
  ⟨rfl, fun _ _ => rfl, fun p h1 h2 => by omega, fun p h1 h2 => get_at d (by omega)⟩

theorem rot_step {a m k : Nat} {d dk : Array α} (ham : m = a + 1) (hak : a ≤ k) (hk : k + 1 < dk.size) (h : RotTo d dk a m (k + 1)) : RotTo d (swp dk k (k + 1)) a m (k + 1 + 1) := by
  obtain ⟨h0, ho, hl, hr⟩ := h
  refine ⟨by rw [size_swp]; exact h0, fun p hp => ?_, fun p h1 h2 => ?_, fun p h1 h2 => ?_⟩
  · rw [swp_other _ _ _ _ (by omega) (by omega)]
    exact ho p (by omega)
  · by_cases e : p = k
    · subst e
      rw [swp_left _ _ _ (by omega) (by omega), ho (p + 1) (by omega)]
      exact get_at d (by omega)
    · rw [swp_other _ _ _ _ e (by omega)]
      exact hl p h1 (by omega)
  · obtain rfl : p = k + 1 := by omega
    rw [swp_right _ _ _ hk, hr k (by omega) (by omega)]
    exact get_at d (by omega)

theorem sym_one_end {lt L : α → α → Bool} {a m b i : Nat} {d d' : Array α} (hR : Runs lt L a m b d) (hL : SWO L) (ham : m = a + 1) (hmi : m ≤ i) (hib : i ≤ b) (hb : b ≤ d.size)
    (hA : ∀ q, m ≤ q → q < i → lt d[q]! d[a]! = true) (hB : ∀ q, i ≤ q → q < b → lt d[q]! d[a]! = false) (h : RotTo d d' a m i) : SortedTo L a b d d' := by
  have hC : CutAt L a m b a i d := ⟨fun x y h1 h2 _ _ => by omega, fun x y h1 h2 h3 h4 => by
    obtain rfl : x = a := by omega
    rw [← hR.agree x y (Nat.le_refl _) (by omega) h3 (by omega)]
    exact hA y h3 h4⟩
  have hx := cut_cross hL (Nat.le_refl a) (by omega) hmi hib hR hC h
  have f1 := (runs_first (Nat.le_refl a) (by omega) hmi hib hR h).right
  have f2 := runs_second (Nat.le_refl a) (by omega) hmi hib hR h
  refine ⟨permIn_mono d d' a i a b (Nat.le_refl _) hib hb (rot_perm (by omega) hmi (by omega) h), sorted_join f1 (sorted_join f2.left f2.right ?_) hx⟩
  intro p q h1 h2 h3 h4
  rw [h.2.2.2 p h1 h2, h.2.1 q (by omega)]
  rw [get_at d (show p - (i - m) = a by omega), ← hR.agree a q (Nat.le_refl _) (by omega) (by omega) h4]
  exact hB q h3 h4

set_option maxHeartbeats 4000000 in
set_option maxRecDepth 100000 in
theorem sym_one (L : α → α → Bool) (hL : SWO L) (cf : α → α → Int) (gf : Nat) (cb : Array Value) (eg : ∀ args w, (callFunc gf args).run Try.prog w = .ok (.enter gf args) w) (hcmp : CmpLays1 Try.prog gf cb enc cf blk off d0.size w0)
    (R : Row1 enc w0 blk off d0) (cap a m b : Nat) (d : Array α) (w : World) (hs : d.size = d0.size) (S : SW enc w0 blk off d w) (ham : m = a + 1) (hmb : m < b) (hb : b ≤ d.size) (hsz : d.size < 1000000)
    (hR : Runs (ltOf cf) L a m b d) (Q : World → Prop) (hQ : ∀ d' w', SortedTo L a b d d' → SW enc w0 blk off d' w' → Q w') :
    Calls Try.prog 46 #[.slice (some ⟨blk, off, none⟩) d.size cap, .int .i64 a, .int .i64 m, .int .i64 b, .func (.func gf) #[] cb] w fun e w' => e = .returned (.tuple #[]) ∧ Q w' := by
  have mixed := mixedOrders
  have hcl0 := R.hO.cells
  simp only [Value.cells] at hcl0
  have hst := R.hO.store Try.prog
  have S0 : Aside (SW enc w0 blk off d w) := S
  have HC : Aside _ := hcmp
  have HQ : Aside _ := hQ
  have HR : Aside (Runs (ltOf cf) L a m b d) := hR
  have HL : Aside (SWO L) := hL
  clear S hcmp hQ hR hL
  have HAM := Lib.hid ham
  have HS := Lib.hid hs
  clear hs
  have ht : (m : Int) - (a : Int) = 1 := by omega
  clear ham
  go_enter Try.func46, Try.ntmps46
  go_wp2
  go_loopg [10, 11] (b - m) (fun g vi vj wr => ∃ i j : Nat, vi = .int .i64 i ∧ vj = .int .i64 j ∧ m ≤ i ∧ i ≤ j ∧ j ≤ b ∧ j - i ≤ g ∧ Aside (SW enc w0 blk off d wr) ∧ Aside (∀ q, m ≤ q → q < i → ltOf cf d[q]! d[a]! = true) ∧ Aside (∀ q, j ≤ q → q < b → ltOf cf d[q]! d[a]! = false))
  case atStart => exact ⟨m, b, rfl, rfl, by omega, by omega, by omega, by omega, S0, (fun q h1 h2 => by omega), (fun q h1 h2 => by omega)⟩
  case round =>
    clear S0
    obtain ⟨i, j, rfl, rfl, hmi, hij, hjb, hg, S1, HA, HB⟩ := hrel
    by_cases hlt : i < j
    · have hltz : (i : Int) < (j : Int) := by omega
      have hn2 : (d.size : Int) < 1000000 := by omega
      have hj2 : (j : Int) ≤ (d.size : Int) := by omega
      go_wp2_with fail
      have eh : ((i : Int) + (j : Int)) / 2 = (((i + j) / 2 : Nat) : Int) := by omega
      simp only [eh]
      clear eh
      have hh1 : i ≤ (i + j) / 2 := by omega
      have hh2 : (i + j) / 2 < j := by omega
      generalize (i + j) / 2 = h at hh1 hh2 ⊢
      have ph : (0 : Int) ≤ (h : Int) := by omega
      have bh : (h : Int) < (d.size : Int) := by omega
      have pa : (0 : Int) ≤ (a : Int) := by omega
      have ba : (a : Int) < (d.size : Int) := by have := HAM.out; omega
      have la := S1.out.cl R HS.out h (by omega)
      have lb := S1.out.cl R HS.out a (by have := HAM.out; omega)
      obtain ⟨x, hx⟩ : ∃ x, x = d[h]! := ⟨_, rfl⟩
      obtain ⟨y, hy⟩ : ∃ x, x = d[a]! := ⟨_, rfl⟩
      rw [← hx] at la
      rw [← hy] at lb
      have hc := S1.out.cmp HC.out HS.out x y
      cases hlv : ltOf cf d[h]! d[a]! with
      | true =>
        have hv : cf x y < 0 := by rw [hx, hy]; exact of_decide_eq_true hlv
        have hd : decide (cf x y < 0) = true := decide_eq_true hv
        have HA2 : Aside (∀ q, m ≤ q → q < h + 1 → ltOf cf d[q]! d[a]! = true) := sym_lo HR.out HL.out HAM.out (by omega) (by omega) hlv
        clear hx hy hlv
        go_quiet_grown (first | (go_at_fn gf; refine Calls.grown_of (hc _ _)))
        have S2 : Aside (SW enc w0 blk off d (grow (wr.drewN nq) osq)) := S1.out.grown nq osq
        clear la lb hc S1
        generalize grow (wr.drewN nq) osq = w2 at S2 ⊢
        clear nq osq
        go_wp2
        go_roundg (j - (h + 1))
        case measure => omega
        case rel => exact ⟨h + 1, j, by go_num, rfl, by omega, by omega, hjb, Nat.le_refl _, S2, HA2, HB⟩
      | false =>
        have hv : ¬ cf x y < 0 := by rw [hx, hy]; exact of_decide_eq_false hlv
        have hd : decide (cf x y < 0) = false := decide_eq_false hv
        have HB2 : Aside (∀ q, h ≤ q → q < b → ltOf cf d[q]! d[a]! = false) := sym_hi HR.out HL.out HAM.out (by omega) (by omega) hlv
        clear hx hy hlv
        go_quiet_grown (first | (go_at_fn gf; refine Calls.grown_of (hc _ _)))
        have S2 : Aside (SW enc w0 blk off d (grow (wr.drewN nq) osq)) := S1.out.grown nq osq
        clear la lb hc S1
        generalize grow (wr.drewN nq) osq = w2 at S2 ⊢
        clear nq osq
        go_wp2
        go_roundg (h - i)
        case measure => omega
        case rel => exact ⟨i, h, rfl, rfl, hmi, hh1, by omega, Nat.le_refl _, S2, HA, HB2⟩
    · obtain rfl : i = j := by omega
      go_wp2
      go_loopg [13] (i - a) (fun g vk wr2 => ∃ (k : Nat) (dk : Array α), vk = .int .i64 k ∧ a ≤ k ∧ k + 1 ≤ i ∧ i - k ≤ g ∧ Aside (SW enc w0 blk off dk wr2) ∧ Aside (RotTo d dk a m (k + 1)))
      case atStart => exact ⟨a, d, rfl, Nat.le_refl _, by have := HAM.out; omega, Nat.le_refl _, S1, rot_start HAM.out⟩
      case round =>
        clear S1
        obtain ⟨k, dk, rfl, hak, hki, hg2, S1, HT⟩ := hrel
        by_cases hkl : k + 1 < i
        · have hkz : (k : Int) < (i : Int) - 1 := by omega
          have hi1 : (i : Int) ≤ (d.size : Int) := by omega
          have hn2 : (d.size : Int) < 1000000 := by omega
          have hsk : dk.size = d0.size := HT.out.1.trans HS.out
          have HSK := Lib.hid hsk
          clear hsk
          obtain ⟨iN, hiN⟩ : ∃ q, q = k := ⟨_, rfl⟩
          obtain ⟨jN, hjN⟩ : ∃ q, q = k + 1 := ⟨_, rfl⟩
          have hkd : k + 1 < dk.size := by have := HSK.out; have := HS.out; omega
          have ea : ((k : Int)).toNat = iN := by omega
          have pa : (0 : Int) ≤ (k : Int) := by omega
          have ba : (k : Int) < (d.size : Int) := by omega
          have ra : IntKind.i64.wrap (k : Int) = (k : Int) := by rw [IntKind.wrap_i64]; omega
          have ec : ((k : Int) + 1).toNat = jN := by omega
          have pc : (0 : Int) ≤ (k : Int) + 1 := by omega
          have bc : (k : Int) + 1 < (d.size : Int) := by omega
          have rc : IntKind.i64.wrap ((k : Int) + 1) = (k : Int) + 1 := by rw [IntKind.wrap_i64]; omega
          obtain ⟨x, hx⟩ : ∃ x, x = dk[k]! := ⟨_, rfl⟩
          obtain ⟨y, hy⟩ : ∃ x, x = dk[k + 1]! := ⟨_, rfl⟩
          have S2 : Aside (SW enc w0 blk off (swp dk k (k + 1)) ((wr.setCell ⟨blk, off + iN, none⟩ (enc y)).setCell ⟨blk, off + jN, none⟩ (enc x)).drew) := by rw [hiN, hjN, hx, hy]; exact S1.out.swapped R k (k + 1) (by omega) hkd
          have ca := S1.out.c1 R HSK.out k (by omega)
          have cb := S1.out.c1 R HSK.out (k + 1) hkd
          have fa := S1.out.f1 R HSK.out k (by omega)
          have fb := S1.out.f1 R HSK.out (k + 1) hkd
          obtain ⟨u, cc⟩ := S1.out.c2 R HSK.out k (k + 1) (by omega) hkd (enc y)
          rw [← hjN, ← hiN] at cc
          rw [← hx, ← hiN] at ca
          rw [← hy, ← hjN] at cb
          rw [← hiN] at fa
          rw [← hjN] at fb
          clear S1 hx hy hiN hjN
          go_wp2_with fail
          go_big_region
          clear ca cb cc fa fb
          generalize ((wr.setCell ⟨blk, off + iN, none⟩ (enc y)).setCell ⟨blk, off + jN, none⟩ (enc x)).drew = w2 at S2 ⊢
          clear ea ec ra rc
          go_wp2
          go_roundg (i - (k + 1))
          case measure => omega
          case rel => exact ⟨k + 1, swp dk k (k + 1), by go_num, by omega, by omega, Nat.le_refl _, S2, rot_step HAM.out hak hkd HT.out⟩
        · have hik : k + 1 = i := by omega
          have hkz : ¬ (k : Int) < (i : Int) - 1 := by omega
          have hi1 : (i : Int) ≤ (d.size : Int) := by omega
          have hn2 : (d.size : Int) < 1000000 := by omega
          have hfin : SortedTo L a b d dk := sym_one_end HR.out HL.out HAM.out hmi hjb hb HA.out HB.out (hik ▸ HT.out)
          have HF := Lib.hid hfin
          clear hfin hik
          go_wp2
          exact bodyPost_ret (v := .tuple #[]) (by simp [results, Try.results46, go_sem]) rfl ⟨rfl, HQ.out _ _ HF.out S1.out⟩

end Go.Proofs.Ytdiogfjbjdiclaa
