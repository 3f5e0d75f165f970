/- limited, Of; one list and two lists chosen from. -/
import Derived.Test.YtkpmgdhaollheaaGM
namespace Go.Proofs.Ytkpmgdhaollheaa
open Go.RowKit Go.Shelf

theorem OwnAt.rects {w : World} {B : Nat} {v : Value} {l : List Rc} (h : OwnAt w B 39 4 encR v l) : RectsAt w v l := by
  by_cases h0 : 0 < l.length
  · rcases h.2 with ⟨_, e⟩ | ⟨g, cap, cur, rfl, hb, hg, hn, hm, _⟩
    · omega
    · refine ⟨_, cap, rfl, Nat.le_trans hn hm, hn, fun j hj => ⟨g, 0, rfl, (Array.getElem?_eq_some_iff.1 hg).1, ?_⟩⟩
      have c0 := h.cell encR_len rfl hj (i := 0) rfl
      have c1 := h.cell encR_len rfl hj (i := 1) rfl
      have c2 := h.cell encR_len rfl hj (i := 2) rfl
      have c3 := h.cell encR_len rfl hj (i := 3) rfl
      rw [Nat.zero_add]
      exact ⟨c0, c1, c2, c3⟩
  · obtain ⟨p, cap, rfl⟩ := h.shape
    have e : l = [] := List.eq_nil_of_length_eq_zero (by omega)
    subst e
    exact ⟨p, cap, rfl, Nat.zero_le _, Nat.zero_le _, fun j hj => by cases hj⟩

/-- A region and an error. -/
theorem ret_re {fn : Func} {c t : Nat} (hr : fn.results = #[.cell c 27, .tmp t]) {tmps : Array Value} {W : World} {v e : Value} {p : Nat} (hp : tmps.getD c undef = .pointer (some ⟨p, 0, none⟩)) (ht : tmps.getD t undef = e) (hb : BoxAt W p #[v] 27) :
    (results fn tmps).run Try.prog W = .ok (.tuple #[.agg #[v], e]) W := by
  have z0 := hb.cell (i := 0) rfl
  have hp' : tmps[c]?.getD undef = .pointer (some ⟨p, 0, none⟩) := by simpa using hp
  have ht' : tmps[t]?.getD undef = e := by simpa using ht
  simp [results, hr, hp', ht', Try.isAgg27, Try.sizeOf27, loadCellsFrom, go_sem, z0]

def LimR (out l : List Rc) (e : Int) : Prop := (120 < out.length ∧ l = [] ∧ e = 1) ∨ (out.length ≤ 120 ∧ l = out ∧ e = 0)
theorem LimR.det {out l m : List Rc} {e f : Int} (h : LimR out l e) (g : LimR out m f) : l = m ∧ e = f := by
  rcases h with ⟨a, rfl, rfl⟩ | ⟨a, rfl, rfl⟩ <;> rcases g with ⟨b, rfl, rfl⟩ | ⟨b, rfl, rfl⟩
  · exact ⟨rfl, rfl⟩
  · omega
  · omega
  · exact ⟨rfl, rfl⟩

/-- What comes back: a region that can be read, and an error. -/
def RetR (B : Nat) (w' : World) (e : Ending) (Q : List Rc → Int → Prop) : Prop := ∃ v l c, e = .returned (.tuple #[.agg #[v], .int .i64 c]) ∧ RectsAt w' v l ∧ (∀ k, v.ownBlock = some k → B ≤ k) ∧ Q l c
theorem RectsAt.set {w : World} {v : Value} {l : List Rc} (h : RectsAt w v l) {b : Nat} (hb : ∀ k, v.ownBlock = some k → b < k) (j : Nat) (u : Value) : RectsAt (w.setCell ⟨b, j, none⟩ u) v l := by
  obtain ⟨p, cap, rfl, hm, hcp, h⟩ := h
  refine ⟨p, cap, rfl, hm, hcp, fun i hi => ?_⟩
  obtain ⟨b', off, rfl, hlt, hc⟩ := h i hi
  have hne : b < b' := hb b' rfl
  have key : ∀ o, (w.setCell ⟨b, j, none⟩ u).cell? ⟨b', o, none⟩ = w.cell? ⟨b', o, none⟩ := fun o => World.cell?_setCell_other _ _ _ _ (by intro e; simp only [Addr.mk.injEq] at e; omega)
  exact ⟨b', off, rfl, by simpa using hlt, by simp only [RcAt, key]; exact hc⟩
theorem nil_own (B : Nat) : ∀ k, (Value.slice none 0 0).ownBlock = some k → B ≤ k := fun k h => by simp [Value.ownBlock] at h

set_option maxHeartbeats 1000000 in
set_option maxRecDepth 100000 in
theorem limited_any (v : Value) (out : List Rc) (B : Nat) (w : World) (h : RectsAt w v out) (hv : ∀ k, v.ownBlock = some k → B ≤ k) (hl : out.length ≤ 1000000000000) :
    Calls Try.prog 54 #[v] w fun e w' => RetR B w' e (LimR out) ∧ Below w.heap.size w w' := by
  have H := Lib.hid h
  obtain ⟨p, cap, rfl⟩ := h.shape
  obtain ⟨n, hn⟩ : ∃ n, n = out.length := ⟨_, rfl⟩
  rw [← hn] at H hv ⊢
  have HVB := Lib.hid hv
  have N := Lib.hid hn
  have hn' : (n : Int) ≤ 1000000000000 := by omega
  clear h hn hv
  by_cases hl : n ≤ 120
  · have hl' : ¬ ((120 : Int) < (n : Int)) := by omega
    go_enter Try.func54, Try.ntmps54
    go_wp2
    refine bodyPost_ret (ret_re rfl rfl rfl (BoxAt.new w _ _)) rfl ⟨⟨.slice p n cap, out, 0, rfl, ?_, HVB.out, .inr ⟨by rw [← N.out]; exact hl, rfl, rfl⟩⟩, ?_⟩
    · exact H.out.below ((Below.refl _ _).alloc (Nat.le_refl _) _)
    · exact (Below.refl _ _).alloc (Nat.le_refl _) _
  · have hl' : (120 : Int) < (n : Int) := by omega
    go_enter Try.func54, Try.ntmps54
    go_wp2
    refine bodyPost_ret (ret_re rfl rfl rfl (BoxAt.new w _ _)) rfl ⟨⟨_, [], 1, rfl, RectsAt.nil _, nil_own _, .inl ⟨by rw [← N.out]; omega, rfl, rfl⟩⟩, ?_⟩
    exact (Below.refl _ _).alloc (Nat.le_refl _) _

theorem keepOf : KeepAt (fun m => decide (m = 1)) 56 where
  enter := enters_of Try.func56 (by kernel_rfl) rfl
  says m w := by
    go_enter Try.func56, Try.ntmps56
    go_wp2
    go_ret
    exact ⟨ret_bool (by rw [Bool.eq_iff_iff]; simp), rfl⟩
/-- One list, two lists, in a slice of their own. -/
theorem lists1 {w : World} {v : Value} {l : List Rc} (h : RectsAt w v l) : ListsAt (w.alloc (.cells #[v] 25)) (.slice (some ⟨w.heap.size, 0, none⟩) 1 1) [l] := by
  refine ⟨w.heap.size, 1, rfl, fun j hj => ?_⟩
  have hj0 : j = 0 := by simp at hj; omega
  subst hj0
  exact ⟨v, by simp, h.below ((Below.refl _ _).alloc (Nat.le_refl _) _)⟩
theorem lists2 {w : World} {v u : Value} {l m : List Rc} (h : RectsAt w v l) (g : RectsAt w u m) : ListsAt (w.alloc (.cells #[v, u] 25)) (.slice (some ⟨w.heap.size, 0, none⟩) 2 2) [l, m] := by
  refine ⟨w.heap.size, 2, rfl, fun j hj => ?_⟩
  have hj2 : j = 0 ∨ j = 1 := by simp at hj; omega
  rcases hj2 with rfl | rfl
  · exact ⟨v, by simp, h.below ((Below.refl _ _).alloc (Nat.le_refl _) _)⟩
  · exact ⟨u, by simp, g.below ((Below.refl _ _).alloc (Nat.le_refl _) _)⟩

theorem canonFor_congr {K K' : Int → Int → Bool} {l : List Rc} (h : CanonFor K l) (he : ∀ x y, K x y = K' x y) : CanonFor K' l := by
  obtain ⟨bs, h1, h2, h3⟩ := h
  exact ⟨bs, h1, fun x y => (h2 x y).trans (he x y), h3⟩

theorem lim8 {a n : Nat} (h : a ≤ 8 * (n * n)) (hn : n ≤ 120000) : a ≤ 1000000000000 := by
  have h1 := Nat.mul_le_mul hn hn
  omega

theorem choose1_any (K : Int → Bool) (g : Nat) (hK : KeepAt K g) (hk : keepK K 1 = true) (v : Value) (l : List Rc) (w : World) (h : RectsAt w v l) (hl : l.length ≤ 120000) (hp : ∀ r ∈ l, r.l < r.r) :
    Calls Try.prog 55 #[.func (.func g) #[] #[], .slice (some ⟨w.heap.size, 0, none⟩) 1 1] (w.alloc (.cells #[v] 25)) fun e w' => ∃ v' out, e = .returned v' ∧ OwnAt w' w.heap.size 39 4 encR v' out ∧ CanonFor (insideB l) out ∧ out.length ≤ 8 * (l.length * l.length) ∧ Below w.heap.size w w' := by
  refine (choose_any K g hK _ [l] _ (lists1 h) (by simp) (by simp) (by simpa [tot] using hl) (fun m hm r hr => by simp at hm; subst hm; exact hp r hr)).mono ?_
  rintro e w2 ⟨v2, out, h1, h2, h3, h4, h5⟩
  refine ⟨v2, out, h1, h2.mono (by simp), canonFor_congr h3 fun x y => ?_, by simpa [tot] using h4, below_new h5⟩
  have h0 : keepK K 0 = false := by simp [keepK]
  show keepK K ((maskN [insideB l x y] : Nat) : Int) = insideB l x y
  cases insideB l x y
  · simpa [maskN] using h0
  · simpa [maskN] using hk

theorem choose2_any (K : Int → Bool) (k : Bool → Bool → Bool) (g : Nat) (hK : KeepAt K g) (hk : ∀ p q, keepK K ((maskN [p, q] : Nat) : Int) = k p q) (v u : Value) (l m : List Rc) (w : World) (h : RectsAt w v l) (hu : RectsAt w u m) (hl : l.length + m.length ≤ 120000) (hp : ∀ r ∈ l, r.l < r.r) (hq : ∀ r ∈ m, r.l < r.r) :
    Calls Try.prog 55 #[.func (.func g) #[] #[], .slice (some ⟨w.heap.size, 0, none⟩) 2 2] (w.alloc (.cells #[v, u] 25)) fun e w' => ∃ v' out, e = .returned v' ∧ OwnAt w' w.heap.size 39 4 encR v' out ∧ CanonFor (fun x y => k (insideB l x y) (insideB m x y)) out ∧ out.length ≤ 8 * ((l.length + m.length) * (l.length + m.length)) ∧ Below w.heap.size w w' := by
  refine (choose_any K g hK _ [l, m] _ (lists2 h hu) (by simp) (by simp) (by simpa [tot] using hl) (fun n hn r hr => by simp at hn; rcases hn with rfl | rfl; exact hp r hr; exact hq r hr)).mono ?_
  rintro e w2 ⟨v2, out, h1, h2, h3, h4, h5⟩
  exact ⟨v2, out, h1, h2.mono (by simp), canonFor_congr h3 fun x y => hk _ _, by simpa [tot] using h4, below_new h5⟩

/-- What Of returns. -/
def OfR (l out : List Rc) (e : Int) : Prop :=
  (120 < l.length ∧ out = [] ∧ e = 1) ∨ (l.length ≤ 120 ∧ allP l = false ∧ out = [] ∧ e = 2) ∨ (l.length ≤ 120 ∧ allP l = true ∧ ∃ c, CanonFor (insideB l) c ∧ LimR c out e)
theorem OfR.det {l o1 o2 : List Rc} {e1 e2 : Int} (h : OfR l o1 e1) (g : OfR l o2 e2) : o1 = o2 ∧ e1 = e2 := by
  rcases h with ⟨a, rfl, rfl⟩ | ⟨a, b, rfl, rfl⟩ | ⟨a, b, c, hc, hL⟩ <;> rcases g with ⟨a', rfl, rfl⟩ | ⟨a', b', rfl, rfl⟩ | ⟨a', b', c', hc', hL'⟩ <;> first | omega | exact ⟨rfl, rfl⟩ | (rw [b] at b'; cases b') | skip
  obtain rfl := canon_unique hc hc'
  exact hL.det hL'

set_option maxHeartbeats 1000000 in
set_option maxRecDepth 100000 in
theorem of_any (v : Value) (l : List Rc) (w : World) (h : RectsAt w v l) :
    Calls Try.prog 23 #[v] w fun e w' => RetR w.heap.size w' e (OfR l) ∧ Below w.heap.size w w' := by
  have HP := Lib.hid (fun (w' : World) (hb : Below w.heap.size w w') => allProper_any v l w' (h.below hb))
  have HR := Lib.hid h
  obtain ⟨p, cap, rfl⟩ := h.shape
  obtain ⟨n, hn⟩ : ∃ n, n = l.length := ⟨_, rfl⟩
  have hm : n ≤ maxLen := by obtain ⟨_, _, e, hm, _⟩ := h; rw [hn]; exact hm
  rw [← hn] at HP HR ⊢
  have hm' : (n : Int) ≤ 9223372036854775807 := by unfold maxLen at hm; omega
  have N := Lib.hid hn
  clear h hn
  by_cases hl : n ≤ 120
  · have hl' : ¬ ((120 : Int) < (n : Int)) := by omega
    by_cases ha : allP l = true
    · have hp := allP_iff.1 ha
      rw [ha] at HP
      have HC := Lib.hid (fun (w' : World) (hb : Below w.heap.size w w') => choose1_any (fun m => decide (m = 1)) 56 keepOf rfl (.slice p n cap) l w' (HR.out.below hb) (by rw [← N.out]; omega) fun r hr => (hp r hr).2.1)
      have HA := Lib.hid ha
      clear ha hp
      go_enter Try.func23, Try.ntmps23
      go_wp2_with (first
        | (go_at_call 53; refine Calls.mono (HP.out _ ((Below.refl _ _).alloc (Nat.le_refl _) _)) ?_; rintro e w1 ⟨rfl, hb⟩; have hbx := Lib.hid ((BoxAt.new w #[.slice none 0 0] 27).below hb); have HB := Lib.hid (below_new hb); clear hb)
        | (go_at_call 55; refine Calls.mono (HC.out _ HB.out) ?_; rintro e w2 ⟨v2, out, rfl, ho, hcan, hlen, hb⟩; have bx2 := Lib.hid (hbx.out.below hb); have HB2 := Lib.hid (below_step HB.out hb); have HO := Lib.hid ho; have HCan := Lib.hid hcan; have HLen := Lib.hid (lim8 hlen (by rw [← N.out]; omega)); obtain ⟨p2, k2, rfl⟩ := ho.shape; clear hb ho hcan hlen)
        | (go_at_call 54; refine Calls.mono (limited_any _ out w1.heap.size _ HO.out.rects (ownsRow_ge HO.out) HLen.out) ?_; rintro e w3 ⟨⟨v3, l3, e3, rfl, hr3, hv3, hL3⟩, hb⟩; have bx3 := bx2.out.below hb; have c3 := bx3.cell (i := 0) rfl; have f3 := bx3.free 0; have HB3 := Lib.hid (below_step HB2.out hb); have HR3 := Lib.hid hr3; have HV3 := Lib.hid hv3; have HZ := Lib.hid HB.out.size; have HL3 := Lib.hid hL3; have HX3 := Lib.hid bx3; obtain ⟨p3, k3, rfl⟩ := hr3.shape; clear hb hr3 hv3 hL3 bx3))
      have hlt := hbx.out.lt
      refine bodyPost_ret (ret_re rfl rfl rfl (HX3.out.set 0 (.slice p3 l3.length k3))) rfl ⟨⟨_, l3, e3, rfl, HR3.out.set (fun k hk => ?_) _ _, (fun k hk => ?_), .inr (.inr ⟨by rw [← N.out]; exact hl, HA.out, out, ?_, HL3.out⟩)⟩, HB3.out.setCell (Nat.le_refl _) _⟩
      · have := HV3.out k hk; omega
      · have := HV3.out k hk; omega
      · exact HCan.out
    · have ha' : allP l = false := by simpa using ha
      rw [ha'] at HP
      have HA := Lib.hid ha'
      clear ha ha'
      go_enter Try.func23, Try.ntmps23
      go_wp2_with (go_at_call 53; refine Calls.mono (HP.out _ ((Below.refl _ _).alloc (Nat.le_refl _) _)) ?_; rintro e w1 ⟨rfl, hb⟩; have hbx := (BoxAt.new w #[.slice none 0 0] 27).below hb; have hc0 := hbx.cell (i := 0) rfl; have hf0 := hbx.free 0; have HX := Lib.hid hbx; have HB := Lib.hid (below_new hb); clear hb hbx)
      refine bodyPost_ret (ret_re rfl rfl rfl (HX.out.set 0 (.slice none 0 0))) rfl ⟨⟨_, [], 2, rfl, RectsAt.nil _, nil_own _, .inr (.inl ⟨by rw [← N.out]; exact hl, HA.out, rfl, rfl⟩)⟩, HB.out.setCell (Nat.le_refl _) _⟩
  · have hl' : (120 : Int) < (n : Int) := by omega
    go_enter Try.func23, Try.ntmps23
    go_wp2
    refine bodyPost_ret (ret_re rfl rfl rfl (BoxAt.new w _ _)) rfl ⟨⟨_, [], 1, rfl, RectsAt.nil _, nil_own _, .inl ⟨by rw [← N.out]; omega, rfl, rfl⟩⟩, ?_⟩
    exact (Below.refl _ _).alloc (Nat.le_refl _) _

/-- What the functions of two regions return. -/
def CombR (k : Bool → Bool → Bool) (a b out : List Rc) (e : Int) : Prop :=
  (¬ (ValidP a ∧ ValidP b) ∧ out = [] ∧ e = 7) ∨ (ValidP a ∧ ValidP b ∧ ∃ c, CanonFor (fun x y => k (insideB a x y) (insideB b x y)) c ∧ LimR c out e)
theorem CombR.det {k : Bool → Bool → Bool} {a b o1 o2 : List Rc} {e1 e2 : Int} (h : CombR k a b o1 e1) (g : CombR k a b o2 e2) : o1 = o2 ∧ e1 = e2 := by
  rcases h with ⟨n, rfl, rfl⟩ | ⟨va, vb, c, hc, hL⟩ <;> rcases g with ⟨n', rfl, rfl⟩ | ⟨va', vb', c', hc', hL'⟩
  · exact ⟨rfl, rfl⟩
  · exact absurd ⟨va', vb'⟩ n
  · exact absurd ⟨va, vb⟩ n'
  · obtain rfl := canon_unique hc hc'
    exact hL.det hL'

theorem RectsAt.but {w w' : World} {v : Value} {l : List Rc} {row : Option Nat} (h : RectsAt w v l) (hg : w.grownBy w' row) (hv : ∀ k, v.ownBlock = some k → row ≠ some k) : RectsAt w' v l := by
  obtain ⟨p, cap, rfl, hm, hcp, h⟩ := h
  refine ⟨p, cap, rfl, hm, hcp, fun j hj => ?_⟩
  obtain ⟨b, off, rfl, hlt, hc⟩ := h j hj
  have hk : w'.heap[b]? = w.heap[b]? := hg.block b hlt (fun e => hv b rfl e.symm)
  have key : ∀ o, w'.cell? ⟨b, o, none⟩ = w.cell? ⟨b, o, none⟩ := fun o => by simp [World.cell?, hk]
  refine ⟨b, off, rfl, Nat.lt_of_lt_of_le hlt hg.size, ?_⟩
  obtain ⟨c0, c1, c2, c3⟩ := hc
  exact ⟨(key _).trans c0, (key _).trans c1, (key _).trans c2, (key _).trans c3⟩
end Go.Proofs.Ytkpmgdhaollheaa
