/- The reference's Same and Within; two boxes. -/
import Derived.Test.YtdpnkbbphfcngabGRV
import Derived.Test.YtdpnkbbphfcngabGGd
import Derived.Deep.RegionHeld3
namespace Go.Proofs.Ytdpnkbbphfcngab
open Go.RowKit Go.Shelf

/-- What lies within. -/
def Sub (a b : List Rc) : Prop := ∀ x y, insideB a x y = true → insideB b x y = true

/-- The two boxes of a function of two regions. -/
structure TwoAt (w w2 : World) (pa pb : Value) : Prop where
  x0 : BoxAt w2 w.heap.size #[pa] 25
  x1 : BoxAt w2 (w.heap.size + 1) #[pb] 25
  bw : Below w.heap.size w w2
  sz : w2.heap.size = w.heap.size + 2
theorem two_at (w : World) (pa pb : Value) : TwoAt w ((w.alloc (.cells #[pa] 25)).alloc (.cells #[pb] 25)) pa pb := by
  refine ⟨(BoxAt.new w #[pa] 25).alloc _, ?_, ((Below.refl _ _).alloc (Nat.le_refl _) _).alloc (by simp) _, by simp⟩
  have := BoxAt.new (w.alloc (.cells #[pa] 25)) #[pb] 25
  simpa using this

set_option maxHeartbeats 2000000 in
set_option maxRecDepth 100000 in
theorem refSameR_any (va vb : Value) (a b : List Rc) (w : World) (ha : RectsAt w va a) (hb : RectsAt w vb b) :
    Calls Try.prog 14 #[.agg #[va], .agg #[vb]] w fun e w' => RetB e (a = b) ∧ Below w.heap.size w w' := by
  have HT := Lib.hid (two_at w va vb)
  have HS := Lib.hid (refRects_any va vb a b _ (ha.below HT.out.bw) (hb.below HT.out.bw))
  obtain ⟨pa, ca, rfl⟩ := ha.shape
  obtain ⟨pb, cb, rfl⟩ := hb.shape
  clear ha hb
  generalize hna : a.length = na at *
  generalize hnb : b.length = nb at *
  clear hna hnb
  go_enter Try.func14, Try.ntmps14
  go_wp2_with (go_at_call 31; refine Calls.mono HS.out ?_; rintro e w1 ⟨⟨t, rfl, ht⟩, hb⟩; have HR := Lib.hid ht; have B1 := Lib.hid (below_step HT.out.bw hb); clear hb ht)
  go_ret
  exact ⟨⟨t, rfl, HR.out⟩, B1.out⟩

theorem refWithin_len {a b out : List Rc} (h : CanonFor (fun x y => refK 3 (insideB a x y) (insideB b x y)) out) : out.length = 0 ↔ Sub a b := by
  constructor
  · intro h0 x y hx
    have e : out = [] := List.length_eq_zero_iff.1 h0
    have := h.inside x y
    rw [e, hx] at this
    cases e2 : insideB b x y
    · rw [e2] at this; cases this
    · rfl
  · intro hs
    have e : out = [] := canon_unique h (canonical_nil.for.congr fun x y => by
      show false = refK 3 (insideB a x y) (insideB b x y)
      cases e1 : insideB a x y
      · cases insideB b x y <;> rfl
      · rw [hs x y e1]; rfl)
    rw [e]; rfl

set_option maxHeartbeats 2000000 in
set_option maxRecDepth 100000 in
theorem refWithin_any (va vb : Value) (a b : List Rc) (w : World) (ha : RectsAt w va a) (hb : RectsAt w vb b) :
    Calls Try.prog 13 #[.agg #[va], .agg #[vb]] w fun e w' => RetB e (ValidP a ∧ ValidP b ∧ (Sub a b)) ∧ Below w.heap.size w w' := by
  have HT := Lib.hid (two_at w va vb)
  have HVa := Lib.hid (fun (w' : World) (h : Below w.heap.size w w') => refValid_any va a w' (ha.below h))
  have HVb := Lib.hid (fun (w' : World) (h : Below w.heap.size w w') => refValid_any vb b w' (hb.below h))
  have HC := Lib.hid (fun (w' : World) (h : Below w.heap.size w w') (pa : ValidP a) (pb : ValidP b) => refCombine_any va vb a b 3 w' (ha.below h) (hb.below h) (by have := pa.1; omega) (by have := pb.1; omega))
  obtain ⟨pa, ca, rfl⟩ := ha.shape
  obtain ⟨pb, cb, rfl⟩ := hb.shape
  clear ha hb
  generalize hna : a.length = na at *
  generalize hnb : b.length = nb at *
  clear hna hnb
  have HCan := Lib.hid (refL_for 3 a b)
  generalize refL (refK 3) a b (xsOf (a ++ b)) (ysOf (a ++ b)) = out at HC HCan
  have HLn := Lib.hid (refWithin_len HCan.out)
  by_cases hva : ValidP a
  · by_cases hvb : ValidP b
    · have PA := Lib.hid hva
      have PB := Lib.hid hvb
      clear hva hvb
      go_enter Try.func13, Try.ntmps13
      go_wp2_with (first
        | (go_at_call 29; (with_reducible refine (HVa.out _ (by first | exact HT.out.bw | fail)).mono ?_); rintro e w1 ⟨hr, hb⟩; obtain rfl := hr.is_yes PA.out; have c0 := (HT.out.x0.below hb).cell (i := 0) rfl; have c1 := (HT.out.x1.below hb).cell (i := 0) rfl; have Y0 := Lib.hid (HT.out.x0.below hb); have Y1 := Lib.hid (HT.out.x1.below hb); have B1 := Lib.hid (below_step HT.out.bw hb); clear hb hr)
        | (go_at_call 29; refine (HVb.out _ B1.out).mono ?_; rintro e w2 ⟨hr, hb⟩; obtain rfl := hr.is_yes PB.out; clear c0 c1; have c0 := (Y0.out.below hb).cell (i := 0) rfl; have c1 := (Y1.out.below hb).cell (i := 0) rfl; have B2 := Lib.hid (below_step B1.out hb); clear hb hr)
        | (go_at_call 32; refine (HC.out _ B2.out PA.out PB.out).mono ?_; rintro e w3 ⟨v3, rfl, ho, hln, hb⟩; obtain ⟨p3, c3, rfl⟩ := ho.shape; have B3 := Lib.hid (below_step B2.out hb); clear hb ho))
      go_ret
      refine ⟨⟨_, rfl, ?_⟩, B3.out⟩
      have := HLn.out
      constructor
      · intro h
        exact ⟨PA.out, PB.out, this.1 (by simpa using h)⟩
      · intro h
        simpa using this.2 h.2.2
    · have PA := Lib.hid hva
      have PB := Lib.hid hvb
      clear hva hvb
      go_enter Try.func13, Try.ntmps13
      go_wp2_with (first
        | (go_at_call 29; (with_reducible refine (HVa.out _ (by first | exact HT.out.bw | fail)).mono ?_); rintro e w1 ⟨hr, hb⟩; obtain rfl := hr.is_yes PA.out; have c0 := (HT.out.x0.below hb).cell (i := 0) rfl; have c1 := (HT.out.x1.below hb).cell (i := 0) rfl; have B1 := Lib.hid (below_step HT.out.bw hb); clear hb hr)
        | (go_at_call 29; refine (HVb.out _ B1.out).mono ?_; rintro e w2 ⟨hr, hb⟩; obtain rfl := hr.is_no PB.out; have B2 := Lib.hid (below_step B1.out hb); clear hb hr))
      go_ret
      exact ⟨RetB.no fun h => PB.out h.2.1, B2.out⟩
  · have PA := Lib.hid hva
    clear hva
    go_enter Try.func13, Try.ntmps13
    go_wp2_with (go_at_call 29; refine (HVa.out _ HT.out.bw).mono ?_; rintro e w1 ⟨hr, hb⟩; obtain rfl := hr.is_no PA.out; have B1 := Lib.hid (below_step HT.out.bw hb); clear hb hr)
    go_ret
    exact ⟨RetB.no fun h => PA.out h.1, B1.out⟩

end Go.Proofs.Ytdpnkbbphfcngab
