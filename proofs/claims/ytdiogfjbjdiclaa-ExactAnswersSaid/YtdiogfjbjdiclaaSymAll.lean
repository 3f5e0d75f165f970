/- slices.symMergeCmpFunc at ints, whole. -/
import Derived.Test.YtdiogfjbjdiclaaSymC
namespace Go.Proofs.Ytdiogfjbjdiclaa
open Go.RowKit Go.Sort Go.Shelf Go.Lib
variable {α : Type} [Inhabited α] {enc : α → Value} {w0 : World} {blk off : Nat} {d0 : Array α}

theorem rot_none {d : Array α} {s m e : Nat} (hsm : s ≤ m) (hme : m ≤ e) (h : s = m ∨ e = m) : RotTo d d s m e := by
  refine ⟨rfl, fun _ _ => rfl, fun p h1 h2 => get_at d (by omega), fun p h1 h2 => get_at d (by omega)⟩

theorem sortedTo_refl {L : α → α → Bool} {a b : Nat} {d : Array α} (h : SortedIn L a b d) : SortedTo L a b d d := ⟨permIn_refl _ _ _, h⟩

theorem runs_kept {lt L : α → α → Bool} {a c e b : Nat} {d1 d2 : Array α} (h : SortedTo L a c d1 d2) (hR : Runs lt L c e b d1) (hce : c ≤ e) : Runs lt L c e b d2 := by
  have hk := h.1.2.1
  refine ⟨fun i j h1 h2 h3 => ?_, fun i j h1 h2 h3 => ?_, fun p q h1 h2 h3 h4 => ?_⟩
  · rw [hk i (by omega), hk j (by omega)]; exact hR.left i j h1 h2 h3
  · rw [hk i (by omega), hk j (by omega)]; exact hR.right i j h1 h2 h3
  · rw [hk p (by omega), hk q (by omega)]; exact hR.agree p q h1 h2 h3 h4

/-- What a merge of [a, b) leaves. -/
def Merged (enc : α → Value) (w0 : World) (blk off : Nat) (L : α → α → Bool) (a b : Nat) (d : Array α) (w' : World) : Prop := ∃ d', SortedTo L a b d d' ∧ SW enc w0 blk off d' w'

theorem sym_any (L : α → α → Bool) (hL : SWO L) (cf : α → α → Int) (gf : Nat) (cb : Array Value) (eg : ∀ args w, (callFunc gf args).run Try.prog w = .ok (.enter gf args) w) (hcmp : CmpLays1 Try.prog gf cb enc cf blk off d0.size w0)
    (R : Row1 enc w0 blk off d0) (cap : Nat) (hsz : d0.size < 1000000) :
    ∀ (N a m b : Nat) (d : Array α) (w : World), b - a ≤ N → d.size = d0.size → SW enc w0 blk off d w → a < m → m < b → b ≤ d0.size → Runs (ltOf cf) L a m b d →
      Calls Try.prog 46 #[.slice (some ⟨blk, off, none⟩) d0.size cap, .int .i64 a, .int .i64 m, .int .i64 b, .func (.func gf) #[] cb] w fun e w' => e = .returned (.tuple #[]) ∧ Merged enc w0 blk off L a b d w' := by
  intro N
  induction N with
  | zero => intro a m b d w h1 _ _ h2 h3; omega
  | succ N ih =>
    intro a m b d w hN hs S ham hmb hb hR
    have hsz' : d.size < 1000000 := by omega
    have hb' : b ≤ d.size := by omega
    by_cases c1 : m = a + 1
    · have h := sym_one L hL cf gf cb eg hcmp R cap a m b d w hs S c1 hmb hb' hsz' hR (Merged enc w0 blk off L a b d) (fun d' w' h1 h2 => ⟨d', h1, h2⟩)
      rw [hs] at h; exact h
    by_cases c2 : b = m + 1
    · have h := sym_two L hL cf gf cb eg hcmp R cap a m b d w hs S (by omega) c2 hb' hsz' hR (Merged enc w0 blk off L a b d) (fun d' w' h1 h2 => ⟨d', h1, h2⟩)
      rw [hs] at h; exact h
    have h := sym_three L hL cf gf cb eg hcmp R cap a m b d w hs S (by omega) (by omega) hb' hsz' hR (Merged enc w0 blk off L a b d) ((a + b) / 2) rfl ?_
    · rw [hs] at h; exact h
    intro s e has hsm hme heb hse hC
    have hM : s + (e - m) = (a + b) / 2 := by omega
    refine ⟨fun w1 => ∃ d1, RotTo d d1 s m e ∧ SW enc w0 blk off d1 w1, fun w1 => ∃ d1 d2, RotTo d d1 s m e ∧ SortedTo L a ((a + b) / 2) d1 d2 ∧ SW enc w0 blk off d2 w1, ?_, ?_, ?_⟩
    · intro w1 S1
      refine ⟨fun h1 h2 => ?_, fun h1 => ⟨d, rot_none hsm hme h1, S1⟩⟩
      exact rotate_any R cap s m e d w1 _ hs S1 h1 h2 (by omega) (by omega) _ (fun d' w' hr hS => ⟨d', hr, hS⟩)
    · rintro w1 ⟨d1, hr, S1⟩
      have z1 : d1.size = d0.size := hr.1.trans hs
      have R1 := runs_first has hsm hme heb hR hr
      rw [hM] at R1
      refine ⟨fun h1 h2 => ?_, fun h1 => ⟨d1, d1, hr, sortedTo_refl (runs_id h1 R1), S1⟩⟩
      rw [hs]
      refine (ih a s ((a + b) / 2) d1 w1 (by omega) z1 S1 h1 h2 (by omega) R1).mono ?_
      rintro x w' ⟨rfl, d2, h2, S2⟩
      exact ⟨rfl, d1, d2, hr, h2, S2⟩
    · rintro w1 ⟨d1, d2, hr, h12, S2⟩
      have z2 : d2.size = d0.size := h12.1.1.trans (hr.1.trans hs)
      have R2 := runs_second has hsm hme heb hR hr
      rw [hM] at R2
      have R3 := runs_kept h12 R2 (by omega)
      have hx := cut_cross hL has hsm hme heb hR hC hr
      rw [hM] at hx
      have fin : ∀ d3 w3, SortedTo L ((a + b) / 2) b d2 d3 → SW enc w0 blk off d3 w3 → Merged enc w0 blk off L a b d w3 := fun d3 w3 h23 S3 =>
        ⟨d3, merge_end (by omega) (by omega) hb' has hsm hme heb hr hx h12 h23, S3⟩
      refine ⟨fun h1 h2 => ?_, fun h1 => fin d2 w1 (sortedTo_refl (runs_id h1 R3)) S2⟩
      rw [hs]
      refine (ih ((a + b) / 2) e b d2 w1 (by omega) z2 S2 h1 h2 hb R3).mono ?_
      rintro x w' ⟨rfl, d3, h23, S3⟩
      exact ⟨rfl, fin d3 w' h23 S3⟩

/-! ### Blocks of 20, 40, 80 -/
section
variable (lt L : α → α → Bool) (n : Nat)

/-- The blocks of s are sorted; between them both orders agree. -/
structure Blocks (s : Nat) (d : Array α) : Prop where
  sorted : ∀ p q, p < q → q < n → p / s = q / s → L d[q]! d[p]! = false
  agree : ∀ p q, p < q → q < n → p / s ≠ q / s → lt d[q]! d[p]! = L d[q]! d[p]!

/-- Up to x the blocks of 20 are sorted; from x on nothing is turned. -/
structure First (d0 : Array α) (x : Nat) (d : Array α) : Prop where
  same : ∀ q, x ≤ q → q < n → d[q]! = d0[q]!
  sorted : ∀ p q, p < q → q < x → p / 20 = q / 20 → L d[q]! d[p]! = false
  agree : ∀ p q, p < q → q < n → p / 20 ≠ q / 20 → lt d[q]! d[p]! = L d[q]! d[p]!
  perm : PermIn 0 n d0 d

/-- Up to x the blocks of 2 h are sorted; from x on those of h are. -/
structure Next (d0 : Array α) (h x : Nat) (d : Array α) : Prop where
  blk : ∀ p q, x ≤ p → p < q → q < n → p / h = q / h → L d[q]! d[p]! = false
  agr : ∀ p q, x ≤ p → p < q → q < n → p / h ≠ q / h → lt d[q]! d[p]! = L d[q]! d[p]!
  sorted : ∀ p q, p < q → q < x → p / (2 * h) = q / (2 * h) → L d[q]! d[p]! = false
  agree : ∀ p q, p < q → q < n → p / (2 * h) ≠ q / (2 * h) → lt d[q]! d[p]! = L d[q]! d[p]!
  perm : PermIn 0 n d0 d
end

variable {lt L : α → α → Bool} {n : Nat}

theorem first_step {d0 d d' : Array α} {x y : Nat} (hn : n ≤ d0.size) (h : First lt L n d0 x d) (hx : x % 20 = 0) (hxy : x ≤ y) (hy : y ≤ x + 20) (hyn : y ≤ n) (hs : SortedTo L x y d d') : First lt L n d0 y d' := by
  have hk := hs.1.2.1
  have hz := h.perm.1
  refine ⟨fun q h1 h2 => ?_, fun p q h1 h2 h3 => ?_, fun p q h1 h2 h3 => ?_, permIn_trans _ _ _ _ _ h.perm (permIn_mono d d' x y 0 n (by omega) hyn (by omega) hs.1)⟩
  · rw [hk q (by omega)]; exact h.same q (by omega) h2
  · by_cases c : q < x
    · rw [hk q (by omega), hk p (by omega)]; exact h.sorted p q h1 c h3
    · exact hs.2 p q (by omega) h1 h2
  · by_cases cp : x ≤ p ∧ p < y
    · rw [hk q (by omega)]
      exact permIn_all d d' x y (fun v => lt d[q]! v = L d[q]! v) (by omega) hs.1 (fun i h4 h5 => h.agree i q (by omega) h2 (by omega)) p cp.1 cp.2
    · rw [hk p (by omega)]
      by_cases cq : x ≤ q ∧ q < y
      · exact permIn_all d d' x y (fun v => lt v d[p]! = L v d[p]!) (by omega) hs.1 (fun i h4 h5 => h.agree p i (by omega) (by omega) (by omega)) q cq.1 cq.2
      · rw [hk q (by omega)]; exact h.agree p q h1 h2 h3

theorem next_step {d0 d d' : Array α} {h x y : Nat} (hh : h = 20 ∨ h = 40) (hn : n ≤ d0.size) (H : Next lt L n d0 h x d) (hx : x % (2 * h) = 0) (hxy : x ≤ y) (hy : y = x + 2 * h ∨ y = n ∧ y ≤ x + 2 * h) (hyn : y ≤ n) (hs : SortedTo L x y d d') : Next lt L n d0 h y d' := by
  have hk := hs.1.2.1
  have hz := H.perm.1
  refine ⟨fun p q h1 h2 h3 h4 => ?_, fun p q h1 h2 h3 h4 => ?_, fun p q h1 h2 h3 => ?_, fun p q h1 h2 h3 => ?_, permIn_trans _ _ _ _ _ H.perm (permIn_mono d d' x y 0 n (by omega) hyn (by omega) hs.1)⟩
  · rw [hk p (by omega), hk q (by omega)]; exact H.blk p q (by omega) h2 h3 h4
  · rw [hk p (by omega), hk q (by omega)]; exact H.agr p q (by omega) h2 h3 h4
  · by_cases c : q < x
    · rw [hk q (by omega), hk p (by omega)]; exact H.sorted p q h1 c h3
    · exact hs.2 p q (by rcases hh with rfl | rfl <;> omega) h1 h2
  · by_cases cp : x ≤ p ∧ p < y
    · rw [hk q (by rcases hh with rfl | rfl <;> omega)]
      exact permIn_all d d' x y (fun v => lt d[q]! v = L d[q]! v) (by omega) hs.1 (fun i h4 h5 => H.agree i q (by rcases hh with rfl | rfl <;> omega) h2 (by rcases hh with rfl | rfl <;> omega)) p cp.1 cp.2
    · rw [hk p (by omega)]
      by_cases cq : x ≤ q ∧ q < y
      · exact permIn_all d d' x y (fun v => lt v d[p]! = L v d[p]!) (by omega) hs.1 (fun i h4 h5 => H.agree p i (by rcases hh with rfl | rfl <;> omega) (by omega) (by rcases hh with rfl | rfl <;> omega)) q cq.1 cq.2
      · rw [hk q (by omega)]; exact H.agree p q h1 h2 h3

theorem next_runs {d0 d : Array α} {h x y : Nat} (hh : h = 20 ∨ h = 40) (H : Next lt L n d0 h x d) (hx : x % (2 * h) = 0) (hm : x + h ≤ n) (hy : y ≤ x + 2 * h) (hyn : y ≤ n) : Runs lt L x (x + h) y d :=
  ⟨fun i j h1 h2 h3 => H.blk i j h1 h2 (by omega) (by rcases hh with rfl | rfl <;> omega),
   fun i j h1 h2 h3 => H.blk i j (by omega) h2 (by omega) (by rcases hh with rfl | rfl <;> omega),
   fun p q h1 h2 h3 h4 => H.agr p q h1 (by omega) (by omega) (by rcases hh with rfl | rfl <;> omega)⟩

theorem next_last {d0 d : Array α} {h x : Nat} (hh : h = 20 ∨ h = 40) (H : Next lt L n d0 h x d) (hx : x % (2 * h) = 0) (hm : n ≤ x + h) : SortedIn L x n d :=
  fun i j h1 h2 h3 => H.blk i j h1 h2 h3 (by rcases hh with rfl | rfl <;> omega)

/-- At the head of the outer loop: the blocks of h are sorted. -/
structure Outer (lt L : α → α → Bool) (n : Nat) (d0 : Array α) (h : Nat) (d : Array α) : Prop where
  blk : ∀ p q, p < q → q < n → p / h = q / h → L d[q]! d[p]! = false
  agr : h = 80 ∨ ∀ p q, p < q → q < n → p / h ≠ q / h → lt d[q]! d[p]! = L d[q]! d[p]!
  perm : PermIn 0 n d0 d

theorem outer_first {d0 d : Array α} (h : First lt L n d0 n d) : Outer lt L n d0 20 d := ⟨h.sorted, Or.inr h.agree, h.perm⟩
theorem outer_next {d0 d : Array α} {h : Nat} (H : Next lt L n d0 h n d) : Outer lt L n d0 (2 * h) d := ⟨H.sorted, Or.inr H.agree, H.perm⟩
theorem next_start {d0 d : Array α} {h : Nat} (hh : h = 20 ∨ h = 40) (H : Outer lt L n d0 h d) : Next lt L n d0 h 0 d :=
  ⟨fun p q _ h2 h3 h4 => H.blk p q h2 h3 h4, fun p q _ h2 h3 h4 => (H.agr.resolve_left (by omega)) p q h2 h3 h4, fun p q h1 h2 => by omega,
   fun p q h1 h2 h3 => (H.agr.resolve_left (by omega)) p q h1 h2 (by rcases hh with rfl | rfl <;> omega), H.perm⟩
theorem blocks_end {d0 d : Array α} {h : Nat} (hn : n ≤ h) (H : Outer lt L n d0 h d) : SortedTo L 0 n d0 d :=
  ⟨H.perm, fun i j _ h2 h3 => H.blk i j h2 h3 (by rw [Nat.div_eq_of_lt (by omega), Nat.div_eq_of_lt (by omega)])⟩

end Go.Proofs.Ytdiogfjbjdiclaa
