/- choose: the canonical rectangles of the squares that are kept. -/
import Derived.Test.YtclogmnokjcegaaGJ
import Derived.Deep.Onto
namespace Go.Proofs.Ytclogmnokjcegaa
open Go.RowKit Go.Shelf

theorem OwnAt.mono {α : Type} {w : World} {B B' : Nat} {e : TypeId} {k : Nat} {enc : α → List Value} {v : Value} {l : List α} (h : OwnAt w B e k enc v l) (hb : B' ≤ B) : OwnAt w B' e k enc v l := World.ownsRow.mono h hb
theorem OwnAt.alloc {α : Type} {w : World} {B : Nat} {e : TypeId} {k : Nat} {enc : α → List Value} {v : Value} {l : List α} (h : OwnAt w B e k enc v l) (o : Obj) : OwnAt (w.alloc o) B e k enc v l := World.ownsRow.alloc h o
/-- A row of another kind than the one that grows. -/
theorem OwnAt.other {α : Type} {w w' : World} {B : Nat} {e : TypeId} {k : Nat} {enc : α → List Value} {v : Value} {l : List α} (h : OwnAt w B e k enc v l) {e' : TypeId} (hte : e ≠ e') {B' k' n : Nat} {u : Value} {xs : List Value} (hg : w.grownBy w' u.ownBlock) (ho : w.ownsRow B' e' k' u n xs) : OwnAt w' B e k enc v l := by
  refine World.ownsRow.kept h hg ?_
  cases hv : v.ownBlock with
  | none => exact .inl rfl
  | some g =>
    refine .inr fun e1 => ?_
    obtain ⟨c, fz, hc⟩ := Lib.ownsRow_kind ho g e1.symm
    obtain ⟨c2, fz2, hc2⟩ := Lib.ownsRow_kind h g hv
    rw [hc] at hc2
    simp at hc2
    exact hte hc2.2.1.symm

theorem edges_ok (l m : List Rc) : EdOk (edgesOf l 0 ++ edgesOf m 1) := by
  intro e he
  simp only [List.mem_append, edgesOf, List.mem_flatMap, eds2] at he
  rcases he with ⟨r, _, h⟩ | ⟨r, _, h⟩ <;> simp at h <;> rcases h with rfl | rfl <;> simp

theorem spansOf_len {K : Bool → Bool → Bool} {E : List Ed} {y : Int} (hE : EdOk E) : (spansOf K E y).length ≤ E.length := by
  have := (stAt_bounds (K := K) (y := y) hE E.length (Nat.le_refl _)).2.2.2.2
  unfold stAt at this
  rw [List.take_of_length_le (Nat.le_refl _)] at this
  exact this

/-- What the loop over the cuts keeps. -/
structure ChAt (w wr : World) (K : Bool → Bool → Bool) (E : List Ed) (cuts : List Int) (v7 v8 u : Value) (l : List BB) (k : Nat) : Prop where
  ed : OwnAt wr w.heap.size 101 5 encE v7 E
  cu : OwnAt wr w.heap.size 3 1 encI v8 cuts
  own : OwnAt wr w.heap.size 75 3 encB u l
  sp : ∀ b ∈ l, OwnAt wr w.heap.size 115 2 encS b.v b.c ∧ b.c.length ≤ 10000
  len : l.length ≤ k
  below : Below w.heap.size w wr
  eq : sweep (spansOf K E) (l.map BB.band) (cuts.drop k) = sweep (spansOf K E) [] cuts

theorem ChAt.step {w wr w1 w2 : World} {K : Bool → Bool → Bool} {E : List Ed} {cuts : List Int} {v7 v8 u u' : Value} {l : List BB} {k : Nat} (h : ChAt w wr K E cuts v7 v8 u l k) (hE : EdOk E) (hEl : E.length ≤ 10000) {vs : Value} (hk : k + 1 < cuts.length)
    (h1 : OwnAt w1 wr.heap.size 115 2 encS vs (spansOf K E cuts[k]!)) (hb : Below wr.heap.size wr w1)
    (h2 : OwnAt w2 w.heap.size 75 3 encB u' (pushB l ⟨cuts[k]!, cuts[k + 1]!, vs, spansOf K E cuts[k]!⟩)) (hg : w1.grownBy w2 u.ownBlock) : ChAt w w2 K E cuts v7 v8 u' (pushB l ⟨cuts[k]!, cuts[k + 1]!, vs, spansOf K E cuts[k]!⟩) (k + 1) := by
  have ho := h.own.kept hb
  have hbb := below_step h.below hb
  refine ⟨(h.ed.kept hb).other (by decide) hg ho, (h.cu.kept hb).other (by decide) hg ho, h2, ?_, ?_, hbb.grown hg hbb.size (ownsRow_ge ho), ?_⟩
  · refine pushB_mem (Q := fun v c => OwnAt w2 w.heap.size 115 2 encS v c ∧ c.length ≤ 10000) ⟨(h1.mono h.below.size).other (by decide) hg ho, Nat.le_trans (spansOf_len hE) hEl⟩ fun b hb' => ?_
    exact ⟨((h.sp b hb').1.kept hb).other (by decide) hg ho, (h.sp b hb').2⟩
  · have := pushB_len ⟨cuts[k]!, cuts[k + 1]!, vs, spansOf K E cuts[k]!⟩ l
    have := h.len
    omega
  · rw [band_pushB, ← h.eq]
    have e1 : cuts.drop k = cuts[k]! :: cuts[k + 1]! :: cuts.drop (k + 2) := by
      rw [List.drop_eq_getElem_cons (by omega), List.drop_eq_getElem_cons (by omega), getElem!_pos cuts k (by omega), getElem!_pos cuts (k + 1) (by omega)]
    have e2 : cuts.drop (k + 1) = cuts[k + 1]! :: cuts.drop (k + 2) := by
      rw [List.drop_eq_getElem_cons (by omega), getElem!_pos cuts (k + 1) (by omega)]
    rw [e1, e2]
    rfl

theorem sweep_short {γ : Type} [DecidableEq γ] (sp : Int → γ) (acc : List (Run γ)) : ∀ ys : List Int, ys.length ≤ 1 → sweep sp acc ys = acc
  | [], _ => rfl
  | [_], _ => rfl
  | _ :: _ :: _, h => by simp at h

theorem spansOf_drew (K : Bool → Bool → Bool) (g : Nat) (hK : KeepAt K g) (v : Value) (E : List Ed) (y : Int) (B : Nat) (w : World) (h : OwnAt w B 101 5 encE v E) (hE : EdOk E) (hl : E.length ≤ 10000) (q : Nat) :
    Calls Try.prog 86 #[v, .int .i64 y, .func (.func g) #[] #[]] (w.drewN q) fun e w' => ∃ v', e = .returned v' ∧ OwnAt w' w.heap.size 115 2 encS v' (spansOf K E y) ∧ Below w.heap.size w w' :=
  (spansOf_any K g hK v E y B (w.drewN q) (own_drewN h q) hE hl).mono fun _ _ ⟨v', h1, h2, h3⟩ => ⟨v', h1, h2, ⟨h3.os, h3.tape, h3.output, h3.size, h3.block⟩⟩

set_option maxHeartbeats 4000000 in
set_option maxRecDepth 100000 in
theorem choose_any (K : Bool → Bool → Bool) (g : Nat) (hK : KeepAt K g) (hKf : K false false = false) (v1 v2 : Value) (l1 l2 : List Rc) (w : World) (h1 : RectsAt w v1 l1) (h2 : RectsAt w v2 l2) (hl1 : l1.length ≤ 1000) (hl2 : l2.length ≤ 1000) (hp1 : ∀ r ∈ l1, properR r) (hp2 : ∀ r ∈ l2, properR r) :
    Calls Try.prog 43 #[v1, v2, .func (.func g) #[] #[]] w fun e w' => ∃ v' out, e = .returned v' ∧ OwnAt w' w.heap.size 44 4 encR v' out ∧ CanonFor (fun x y => K (insideB l1 x y) (insideB l2 x y)) out ∧ out.length ≤ 100000000 ∧ Below w.heap.size w w' := by
  have H1 := Lib.hid (edgesOf_any v1 l1 0 w h1 hl1)
  have H2 := Lib.hid (fun w' (hb : Below w.heap.size w w') => edgesOf_any v2 l2 1 w' (h2.below hb) hl2)
  have len1 := Lib.hid (edgesOf_len l1 0)
  have len2 := Lib.hid (edgesOf_len l2 1)
  have HC := Lib.hid (fun (w2 : World) (a b : Value) (ha : OwnAt w2 w.heap.size 101 5 encE a (edgesOf l1 0)) (hb : OwnAt w2 w.heap.size 101 5 encE b (edgesOf l2 1)) =>
    concat_any w2.heap.size 2 a b _ _ w.heap.size (w2.alloc (.cells #[a, b] 98)) (ha.alloc _) (hb.alloc _) (by have := len1.out; omega) (by have := len2.out; omega) (by simp) (by simp))
  clear h1 h2
  go_enter Try.func43, Try.ntmps43
  go_wp2_with fail
  refine Calls.mono H1.out ?_
  rintro e w1 ⟨a, rfl, ha, hb1⟩
  obtain ⟨pa, ca, rfl⟩ := ha.shape
  have HA := Lib.hid ha
  have HB1 := Lib.hid hb1
  clear ha hb1
  go_wp2_with fail
  refine Calls.mono (H2.out _ HB1.out) ?_
  rintro e w2 ⟨b, rfl, hb, hb2⟩
  obtain ⟨pb, cb, rfl⟩ := hb.shape
  have HB := Lib.hid hb
  have HB2 := Lib.hid hb2
  clear hb hb2
  go_wp2_with fail
  refine Calls.mono (HC.out _ _ _ (HA.out.kept HB2.out) (HB.out.mono HB1.out.size)) ?_
  rintro e w3 ⟨v7, rfl, hc3, hb3⟩
  have hb03 : Below w.heap.size w w3 := below_step (below_step HB1.out HB2.out) (below_new hb3)
  have h7 := (hc3.mono (show w.heap.size ≤ _ by have := (below_step HB1.out HB2.out).size; simp; omega))
  have HS := Lib.hid (sortE_any v7 _ w.heap.size w3 h7 (by rw [List.length_append]; have := len1.out; have := len2.out; omega))
  have HB03 := Lib.hid hb03
  have hge := Lib.hid (ownsRow_ge h7)
  clear hc3 hb3 hb03 h7 HA HB HB2 HB1 H2 H1 HC
  go_wp2_with fail
  refine Calls.mono HS.out ?_
  rintro e w4 ⟨rfl, E, hperm, hsort, hE4, hg4⟩
  have hEd : EdOk E := fun e he => edges_ok l1 l2 e (hperm.mem_iff.1 he)
  have hElen : E.length ≤ 4000 := by rw [hperm.length_eq, List.length_append]; have := len1.out; have := len2.out; omega
  have hb04 : Below w.heap.size w w4 := HB03.out.grown hg4 HB03.out.size hge.out
  have HCu := Lib.hid (cutsOf_any v7 E w.heap.size w4 hE4 (by omega))
  have HE4 := Lib.hid hE4
  have HB04 := Lib.hid hb04
  have HEd := Lib.hid hEd
  have HPerm := Lib.hid hperm
  have HSort := Lib.hid hsort
  clear hE4 hb04 hg4 hge HB03 HS hEd hperm hsort
  go_wp2_with fail
  refine Calls.mono HCu.out ?_
  rintro e w5 ⟨v8, rfl, hcu, hb5⟩
  obtain ⟨p8, c8, rfl⟩ := hcu.shape
  obtain ⟨o1, o2, o3⟩ := cutsL_ok E
  have HST := Lib.hid (show ChAt w w5 K E (cutsL E) v7 (.slice p8 (cutsL E).length c8) (.slice none 0 0) [] 0 from
    ⟨HE4.out.kept hb5, hcu.mono HB04.out.size, OwnAt.nil .., (fun b hb => by cases hb), Nat.le_refl _, below_step HB04.out hb5, rfl⟩)
  have HCan := Lib.hid (choose_for hKf hp1 hp2 HPerm.out HSort.out o1 (fun e he => ⟨(o2 _).2 ⟨e, he, .inl rfl⟩, (o2 _).2 ⟨e, he, .inr rfl⟩⟩))
  have hclen : (cutsL E).length ≤ 8000 := by omega
  clear hcu hb5 HCu HE4 HB04 HPerm HSort o1 o2 o3
  generalize hcc : cutsL E = cuts at *
  obtain ⟨n, hn⟩ : ∃ n, n = cuts.length := ⟨_, rfl⟩
  rw [← hn]
  rw [← hn] at HST hclen
  have N := Lib.hid hn
  have hn' : (n : Int) ≤ 8000 := by omega
  clear hn
  go_wp2
  go_loopw [9, 10] (fun u i wr => ∃ (k : Nat) (l : List BB), (k = 0 ∨ k + 1 ≤ n) ∧ i = .int .i64 ((k : Int) + 1) ∧ ChAt w wr K E cuts v7 (.slice p8 n c8) u l k) (fun _ i _ => n - (intOf i).toNat)
  case atStart => exact ⟨0, [], .inl rfl, rfl, HST.out⟩
  case round =>
    obtain ⟨k, l, hk, rfl, hst⟩ := hrel
    by_cases hkn : k + 1 < n
    · have hkc : k + 1 < cuts.length := by rw [← N.out]; exact hkn
      obtain ⟨g8, cap8, e8, _, hg8, _⟩ := hst.cu.form (by omega)
      rw [← N.out] at e8
      cases e8
      have d0 := hst.cu.cell (fun _ => rfl) N.out (show k < cuts.length by omega) (i := 0) rfl
      have d1 := hst.cu.cell (fun _ => rfl) N.out hkc (i := 0) rfl
      simp only [Nat.mul_one, Nat.add_zero] at d0 d1
      have hkn' : (k : Int) + 1 < (n : Int) := by omega
      have hk0 : (0 : Int) ≤ (k : Int) := by omega
      have HSp := Lib.hid (fun q => spansOf_drew K g hK v7 E cuts[k]! w.heap.size wr hst.ed HEd.out (by omega) q)
      have HStep := Lib.hid (fun (w1 w2 : World) (u' vs : Value) => hst.step (w1 := w1) (w2 := w2) (u' := u') HEd.out (by omega) (vs := vs) hkc)
      have HStk := Lib.hid (fun (w1 : World) (vs : Value) (hb : Below wr.heap.size wr w1) (h1 : OwnAt w1 wr.heap.size 115 2 encS vs (spansOf K E cuts[k]!)) =>
        stack_any u9 l ⟨cuts[k]!, cuts[k + 1]!, vs, spansOf K E cuts[k]!⟩ w.heap.size w1 (hst.own.kept hb) (by have := hst.below.size; have := hb.size; omega) (by have := hst.len; omega)
          (fun b hb' => ⟨((hst.sp b hb').1.kept hb).rd (fun _ => rfl), by have := (hst.sp b hb').2; omega⟩) ⟨h1.rd (fun _ => rfl), by have := spansOf_len (K := K) (y := cuts[k]!) HEd.out; dsimp only; omega⟩)
      dsimp only at HStk
      clear hst
      generalize spansOf K E cuts[k]! = spk at *
      generalize cuts[k]! = y0 at *
      generalize cuts[k + 1]! = y1 at *
      go_wp2
      go_quiet (fail)
      go_wp2_with (first
        | (go_at_call 86; refine Calls.mono (HSp.out _) ?_; rintro e w1 ⟨vs, rfl, hs1, hsb⟩; have S1 := Lib.hid hs1; have S2 := Lib.hid hsb; have hvs := hs1.shape; clear hs1 hsb; obtain ⟨ps, cs, rfl⟩ := hvs)
        | (go_at_call 85; refine Calls.mono (HStk.out _ _ S2.out S1.out) ?_; rintro e w2 ⟨u', rfl, hs1, hsb⟩; have S3 := Lib.hid hs1; have S4 := Lib.hid hsb; clear hs1 hsb))
      go_roundw
      case rel => exact ⟨k + 1, _, .inr (by omega), by simp, HStep.out _ _ _ _ S1.out S2.out S3.out S4.out⟩
      case measure => simp [intOf]; omega
    · have heq := hst.eq
      rw [sweep_short _ _ _ (by rw [List.length_drop, ← N.out]; omega)] at heq
      have HR := Lib.hid (rectsOf_any u9 l w.heap.size wr hst.own (by have := hst.len; omega) fun b hb => ⟨(hst.sp b hb).1.rd (fun _ => rfl), (hst.sp b hb).2⟩)
      have HLen := Lib.hid (flatB_take_len (l := l) (fun b hb => (hst.sp b hb).2) (by have := hst.len; omega) l.length)
      rw [List.take_of_length_le (Nat.le_refl _)] at HLen
      have HF := Lib.hid (show chooseL K E cuts = flatB l by unfold chooseL flatB; rw [heq])
      have HBw := Lib.hid hst.below
      have hkn' : ¬ ((k : Int) + 1 < (n : Int)) := by omega
      have hk0 : (0 : Int) ≤ (k : Int) := by omega
      have hk1 : (k : Int) ≤ 8000 := by omega
      clear hst heq
      go_wp2_with (go_at_call 87; refine Calls.mono HR.out ?_; rintro e w2 ⟨u', rfl, hs1, hsb⟩; have S3 := Lib.hid hs1; have S4 := Lib.hid hsb; clear hs1 hsb)
      go_ret
      exact ⟨_, flatB l, rfl, S3.out.mono HBw.out.size, by rw [← HF.out]; exact HCan.out, HLen.out, below_step HBw.out S4.out⟩
end Go.Proofs.Ytclogmnokjcegaa
