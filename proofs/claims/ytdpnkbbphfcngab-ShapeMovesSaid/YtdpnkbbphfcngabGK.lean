/- Choose: the canonical rectangles of the squares that are kept. -/
import Derived.Test.YtdpnkbbphfcngabGJ
import Derived.Deep.Onto
import Derived.OwnWalk
namespace Go.Proofs.Ytdpnkbbphfcngab
open Go.RowKit Go.Shelf

theorem OwnAt.mono {α : Type} {w : World} {B B' : Nat} {e : TypeId} {k : Nat} {enc : α → List Value} {v : Value} {l : List α} (h : OwnAt w B e k enc v l) (hb : B' ≤ B) : OwnAt w B' e k enc v l := World.ownsRow.mono h hb

theorem edges_ok (Ls : List (List Rc)) : EdOk Ls.length (edgesFrom 0 Ls) := by
  intro e he
  obtain ⟨h1, h2, _⟩ := edgesFrom_mem he
  exact ⟨by simpa using h1, h2⟩

theorem spansN_len {K : Int → Bool} {n : Nat} {E : List Ed} {y : Int} (hE : EdOk n E) : (spansN K n E y).length ≤ E.length := by
  have := (stAt_bounds (K := K) (y := y) hE E.length (Nat.le_refl _)).2.2
  unfold stAt at this
  rw [List.take_of_length_le (Nat.le_refl _)] at this
  exact this

theorem made_zero (n : Nat) : (madeCells (Value.int .i64 0).cells (n * 1)).toList = (List.replicate n (0 : Int)).flatMap encI := by
  rw [flat_encI, List.map_replicate]
  simp only [madeCells, Value.cells]
  apply List.ext_getElem
  · simp
  · intro i h1 h2
    simp [Nat.mod_one]

/-- What the loop over the cuts keeps. -/
structure ChAt (w wr : World) (K : Int → Bool) (n : Nat) (E : List Ed) (cuts : List Int) (v7 v8 vc u : Value) (l : List BB) (k : Nat) : Prop where
  ed : OwnAt wr w.heap.size 75 5 encE v7 E
  cu : OwnAt wr w.heap.size 3 1 encI v8 cuts
  cov : OwnAt wr w.heap.size 3 1 encI vc (List.replicate n 0)
  own : OwnAt wr w.heap.size 83 3 encB u l
  sp : ∀ b ∈ l, OwnAt wr w.heap.size 97 2 encS b.v b.c ∧ b.c.length ≤ E.length
  len : l.length ≤ k
  below : Below w.heap.size w wr
  eq : sweep (spansN K n E) (l.map BB.band) (cuts.drop k) = sweep (spansN K n E) [] cuts

/-- Behind spansOf: the counts are as they were, and so is the rest. -/
theorem ChAt.mid {w wr w1 : World} {K : Int → Bool} {n : Nat} {E : List Ed} {cuts : List Int} {v7 v8 vc u : Value} {l : List BB} {k : Nat} (h : ChAt w wr K n E cuts v7 v8 vc u l k) (hne : v8.ownBlock ≠ vc.ownBlock)
    (hc : OwnAt w1 w.heap.size 3 1 encI vc (List.replicate n 0)) (hg : wr.grownBy w1 vc.ownBlock) : ChAt w w1 K n E cuts v7 v8 vc u l k := by
  refine ⟨h.ed.other (by decide) hg h.cov, World.ownsRow.kept h.cu hg (.inr hne), hc, h.own.other (by decide) hg h.cov, fun b hb => ⟨(h.sp b hb).1.other (by decide) hg h.cov, (h.sp b hb).2⟩, h.len, h.below.grown hg h.below.size (ownsRow_ge h.cov), h.eq⟩

theorem ChAt.step {w w1 w2 : World} {K : Int → Bool} {n : Nat} {E : List Ed} {cuts : List Int} {v7 v8 vc u u' : Value} {l : List BB} {k : Nat} (h : ChAt w w1 K n E cuts v7 v8 vc u l k) (hE : EdOk n E) {vs : Value} (hk : k + 1 < cuts.length)
    (h1 : OwnAt w1 w.heap.size 97 2 encS vs (spansN K n E cuts[k]!))
    (h2 : OwnAt w2 w.heap.size 83 3 encB u' (pushB l ⟨cuts[k]!, cuts[k + 1]!, vs, spansN K n E cuts[k]!⟩)) (hg : w1.grownBy w2 u.ownBlock) : ChAt w w2 K n E cuts v7 v8 vc u' (pushB l ⟨cuts[k]!, cuts[k + 1]!, vs, spansN K n E cuts[k]!⟩) (k + 1) := by
  have ho := h.own
  refine ⟨h.ed.other (by decide) hg ho, h.cu.other (by decide) hg ho, h.cov.other (by decide) hg ho, h2, ?_, ?_, h.below.grown hg h.below.size (ownsRow_ge ho), ?_⟩
  · refine pushB_mem (Q := fun v c => OwnAt w2 w.heap.size 97 2 encS v c ∧ c.length ≤ E.length) ⟨h1.other (by decide) hg ho, spansN_len hE⟩ fun b hb' => ?_
    exact ⟨(h.sp b hb').1.other (by decide) hg ho, (h.sp b hb').2⟩
  · have := pushB_len ⟨cuts[k]!, cuts[k + 1]!, vs, spansN K n E cuts[k]!⟩ l
    have := h.len
    omega
  · rw [band_pushB, ← h.eq]
    have e1 : cuts.drop k = cuts[k]! :: cuts[k + 1]! :: cuts.drop (k + 2) := by
      rw [List.drop_eq_getElem_cons (by omega), List.drop_eq_getElem_cons (by omega), getElem!_pos cuts k (by omega), getElem!_pos cuts (k + 1) (by omega)]
    have e2 : cuts.drop (k + 1) = cuts[k + 1]! :: cuts.drop (k + 2) := by
      rw [List.drop_eq_getElem_cons (by omega), getElem!_pos cuts (k + 1) (by omega)]
    rw [e1, e2]
    rfl

theorem sweep_short {γ : Type} [DecidableEq γ] (sp : Int → γ) (acc : List (Run γ)) : ∀ ys : List Int, ys.length ≤ 1 → sweep sp acc ys = acc
  | [], _ => rfl
  | [_], _ => rfl
  | _ :: _ :: _, h => by simp at h

theorem spansOf_drew (K : Int → Bool) (g : Nat) (hK : KeepAt K g) (v vc : Value) (E : List Ed) (n : Nat) (y : Int) (B Bc : Nat) (w : World) (h : OwnAt w B 75 5 encE v E) (hc : OwnAt w Bc 3 1 encI vc (List.replicate n 0)) (hz : (spansStN K n y E).c = List.replicate n 0) (hn0 : 0 < n) (hn62 : n ≤ 62) (hE : EdOk n E) (hl : E.length ≤ 240000) (q : Nat) :
    Calls Try.prog 52 #[v, .int .i64 y, vc, .func (.func g) #[] #[]] (w.drewN q) fun e w' => ∃ v', e = .returned v' ∧ OwnAt w' w.heap.size 97 2 encS v' (spansN K n E y) ∧ OwnAt w' Bc 3 1 encI vc (List.replicate n 0) ∧ w.grownBy w' vc.ownBlock :=
  (spansOf_any K g hK v vc E n y B Bc (w.drewN q) (own_drewN h q) (own_drewN hc q) hn0 hn62 hE hl).mono fun _ _ ⟨v', h1, h2, h3, h4⟩ => ⟨v', h1, h2, by rw [← hz]; exact h3, ⟨h4.os, h4.tape, h4.output, h4.size, h4.block⟩⟩

set_option maxHeartbeats 8000000 in
set_option maxRecDepth 100000 in
theorem choose_any (K : Int → Bool) (g : Nat) (hK : KeepAt K g) (v : Value) (Ls : List (List Rc)) (w : World) (h : ListsAt w v Ls) (hL0 : 0 < Ls.length) (hL : Ls.length ≤ 62) (ht : tot Ls ≤ 120000) (hr : rowsOf Ls) :
    Calls Try.prog 28 #[.func (.func g) #[] #[], v] w fun e w' => ∃ v' out, e = .returned v' ∧ OwnAt w' w.heap.size 49 4 encR v' out ∧ CanonFor (fun x y => keepK K (setOf Ls x y)) out ∧ out.length ≤ 8 * (tot Ls * tot Ls) ∧ Below w.heap.size w w' := by
  obtain ⟨i1, hi, hz0, hz1, hz2⟩ := info_parts info_int
  have H1 := Lib.hid (edgesOf_any v Ls w h ht hL)
  have len1 := Lib.hid (edgesFrom_len Ls 0)
  obtain ⟨b0, cap0, rfl, _⟩ := h
  obtain ⟨n, hn⟩ : ∃ n, n = Ls.length := ⟨_, rfl⟩
  rw [← hn] at H1 hL0 hL ⊢
  have NL := Lib.hid hn
  have hnL : (n : Int) ≤ 62 := by omega
  have hEo := Lib.hid (edges_ok Ls)
  rw [← hn] at hEo
  clear hn
  go_enter Try.func28, Try.ntmps28
  go_wp2_with fail
  refine Calls.mono H1.out ?_
  rintro e w3 ⟨v7, rfl, h7, hb03⟩
  have HS := Lib.hid (sortE_any v7 _ w.heap.size w3 h7 (by have := len1.out; omega))
  have HB03 := Lib.hid hb03
  have hge := Lib.hid (ownsRow_ge h7)
  clear hb03 h7 H1
  go_wp2_with fail
  refine Calls.mono HS.out ?_
  rintro e w4 ⟨rfl, E, hperm, hsort, hE4, hg4⟩
  have hEd : EdOk n E := fun e he => hEo.out e (hperm.mem_iff.1 he)
  have hElen2 : E.length = 2 * tot Ls := by rw [hperm.length_eq]; exact len1.out
  have hElen : E.length ≤ 240000 := by omega
  have hb04 : Below w.heap.size w w4 := HB03.out.grown hg4 HB03.out.size hge.out
  have HCu := Lib.hid (cutsOf_any v7 E w.heap.size w4 hE4 (by omega))
  have HE4 := Lib.hid hE4
  have HB04 := Lib.hid hb04
  have HEd := Lib.hid hEd
  have HPerm := Lib.hid hperm
  have HSort := Lib.hid hsort
  clear hE4 hb04 hg4 hge HB03 HS hEd hperm hsort
  go_wp2_with fail
  refine Calls.mono HCu.out ?_
  rintro e w5 ⟨v8, rfl, hcu, hb5⟩
  obtain ⟨p8, c8, rfl⟩ := hcu.shape
  obtain ⟨o1, o2, o3⟩ := cutsL_ok E
  have HCan := Lib.hid (chooseN_for (K := K) hr HPerm.out HSort.out o1 (fun e he => ⟨(o2 _).2 ⟨e, he, .inl rfl⟩, (o2 _).2 ⟨e, he, .inr rfl⟩⟩))
  have HZ := Lib.hid (fun y => (spansN_ok (K := K) hr HPerm.out HSort.out y).1)
  rw [← NL.out] at HCan HZ
  have hclen : (cutsL E).length ≤ 480000 := by omega
  have hclen2 : (cutsL E).length ≤ 2 * E.length := o3
  have HE5 := Lib.hid (HE4.out.kept hb5)
  have HCU := Lib.hid (hcu.mono HB04.out.size)
  have HB5 := Lib.hid (below_step HB04.out hb5)
  clear hcu hb5 HCu HE4 HB04 HPerm HSort o1 o2 o3
  generalize hcc : cutsL E = cuts at *
  obtain ⟨m, hm⟩ : ∃ m, m = cuts.length := ⟨_, rfl⟩
  rw [← hm] at HCU hclen hclen2 ⊢
  have N := Lib.hid hm
  have hm' : (m : Int) ≤ 480000 := by omega
  clear hm
  have hi2 : i1.bytes * n ≤ 281474976710656 := by rw [hz2]; omega
  go_wp2_with (at_make; refine wpList_make_full _ rfl _ _ 22 rfl w.heap.size 3 i1 _ 1 Try.underlying22 hi hz0 hz1 .i64 .i64 _ _ n rfl rfl rfl rfl hi2 (by unfold maxLen; omega) HB5.out.size ?_; intro w6 hmk hgm; rw [made_zero] at hmk)
  have hwb : OwnAt w6 w.heap.size 3 1 encI (.slice (some ⟨w5.heap.size, 0, none⟩) n n) (List.replicate n 0) := by
    unfold OwnAt
    rw [List.length_replicate]
    exact hmk
  have hb56 := below_of_gr hgm
  have hne : (Value.slice p8 m c8).ownBlock ≠ (Value.slice (some ⟨w5.heap.size, 0, none⟩) n n).ownBlock := by
    intro e
    have h1 := (World.ownsRow.lt HCU.out w5.heap.size (by rw [e]; rfl)).2
    omega
  have HST := Lib.hid (show ChAt w w6 K n E cuts v7 (.slice p8 m c8) (.slice (some ⟨w5.heap.size, 0, none⟩) n n) (.slice none 0 0) [] 0 from
    ⟨HE5.out.kept hb56, HCU.out.kept hb56, hwb, OwnAt.nil .., (fun b hb => by cases hb), Nat.le_refl _, below_step HB5.out hb56, rfl⟩)
  have HNE := Lib.hid hne
  clear hmk hgm hwb hb56 hne HE5 HCU HB5
  generalize hvc : Value.slice (some ⟨w5.heap.size, 0, none⟩) n n = vc at *
  go_wp2
  go_loopw [8, 9] (fun u i wr => ∃ (k : Nat) (l : List BB), (k = 0 ∨ k + 1 ≤ m) ∧ i = .int .i64 ((k : Int) + 1) ∧ ChAt w wr K n E cuts v7 (.slice p8 m c8) vc u l k) (fun _ i _ => m - (intOf i).toNat)
  case atStart => exact ⟨0, [], .inl rfl, rfl, HST.out⟩
  case round =>
    obtain ⟨k, l, hk, rfl, hst⟩ := hrel
    by_cases hkn : k + 1 < m
    · have hkc : k + 1 < cuts.length := by rw [← N.out]; exact hkn
      obtain ⟨g8, cap8, e8, _, hg8, _⟩ := hst.cu.form (by omega)
      rw [← N.out] at e8
      cases e8
      have d0 := hst.cu.cell (fun _ => rfl) N.out (show k < cuts.length by omega) (i := 0) rfl
      have d1 := hst.cu.cell (fun _ => rfl) N.out hkc (i := 0) rfl
      simp only [Nat.mul_one, Nat.add_zero] at d0 d1
      have hkn' : (k : Int) + 1 < (m : Int) := by omega
      have hk0 : (0 : Int) ≤ (k : Int) := by omega
      have HSp := Lib.hid (fun q => spansOf_drew K g hK v7 vc E n cuts[k]! w.heap.size w.heap.size wr hst.ed hst.cov (HZ.out _) hL0 hL HEd.out (by omega) q)
      have HMid := Lib.hid (fun (w1 : World) => hst.mid (w1 := w1) HNE.out)
      have HStep := Lib.hid (fun (w1 w2 : World) (u' vs : Value) (hmid : ChAt w w1 K n E cuts v7 (.slice (some ⟨g8, 0, none⟩) m c8) vc u8 l k) => hmid.step (w1 := w1) (w2 := w2) (u' := u') HEd.out (vs := vs) hkc)
      have hwz := hst.below.size
      have HStk := Lib.hid (fun (w1 : World) (vs : Value) (hmid : ChAt w w1 K n E cuts v7 (.slice (some ⟨g8, 0, none⟩) m c8) vc u8 l k) (h1 : OwnAt w1 wr.heap.size 97 2 encS vs (spansN K n E cuts[k]!)) =>
        stack_any u8 l ⟨cuts[k]!, cuts[k + 1]!, vs, spansN K n E cuts[k]!⟩ w.heap.size w1 hmid.own hmid.below.size (by have := hmid.len; omega)
          (fun b hb' => ⟨(hmid.sp b hb').1.rd (fun _ => rfl), by have := (hmid.sp b hb').2; omega⟩) ⟨h1.rd (fun _ => rfl), by have := spansN_len (K := K) (y := cuts[k]!) HEd.out; dsimp only; omega⟩)
      dsimp only at HStk
      clear hst
      generalize spansN K n E cuts[k]! = spk at *
      generalize cuts[k]! = y0 at *
      generalize cuts[k + 1]! = y1 at *
      go_wp2
      go_quiet (fail)
      go_wp2_with (first
        | (go_at_call 52; refine Calls.mono (HSp.out _) ?_; rintro e w1 ⟨vs, rfl, hs1, hs2, hs3⟩; have S1 := Lib.hid hs1; have S2 := Lib.hid (HMid.out _ hs2 hs3); have hvs := hs1.shape; clear hs1 hs2 hs3; obtain ⟨ps, cs, rfl⟩ := hvs)
        | (go_at_call 51; refine Calls.mono (HStk.out _ _ S2.out S1.out) ?_; rintro e w2 ⟨u', rfl, hs1, hsb⟩; have S3 := Lib.hid hs1; have S4 := Lib.hid hsb; clear hs1 hsb))
      go_roundw
      case rel => exact ⟨k + 1, _, .inr (by omega), by simp, HStep.out _ _ _ _ S2.out (S1.out.mono hwz) S3.out S4.out⟩
      case measure => simp [intOf]; omega
    · have heq := hst.eq
      rw [sweep_short _ _ _ (by rw [List.length_drop, ← N.out]; omega)] at heq
      have HR := Lib.hid (rectsOf_any u8 l w.heap.size wr hst.own (by have := hst.len; omega) fun b hb => ⟨(hst.sp b hb).1.rd (fun _ => rfl), by have := (hst.sp b hb).2; omega⟩)
      have HLen := Lib.hid (show (flatB l).length ≤ 8 * (tot Ls * tot Ls) by
        have h1 := flatB_le (l := l) (fun b hb => (hst.sp b hb).2)
        have h2 : l.length ≤ 2 * E.length := by have := hst.len; omega
        have h3 := Nat.mul_le_mul_right E.length h2
        rw [hElen2] at h1 h3
        have h4 : 2 * (2 * tot Ls) * (2 * tot Ls) = 8 * (tot Ls * tot Ls) := by
          rw [show 2 * (2 * tot Ls) = 4 * tot Ls by omega, Nat.mul_mul_mul_comm]
        omega)
      have HF := Lib.hid (show chooseN K n E cuts = flatB l by unfold chooseN flatB; rw [heq])
      have HBw := Lib.hid hst.below
      have hkn' : ¬ ((k : Int) + 1 < (m : Int)) := by omega
      have hk0 : (0 : Int) ≤ (k : Int) := by omega
      have hk1 : (k : Int) ≤ 480000 := by omega
      clear hst heq
      go_wp2_with (go_at_call 53; refine Calls.mono HR.out ?_; rintro e w2 ⟨u', rfl, hs1, hsb⟩; have S3 := Lib.hid hs1; have S4 := Lib.hid hsb; clear hs1 hsb)
      go_ret
      exact ⟨_, flatB l, rfl, S3.out.mono HBw.out.size, by rw [← HF.out]; exact HCan.out, HLen.out, below_step HBw.out S4.out⟩
end Go.Proofs.Ytdpnkbbphfcngab
