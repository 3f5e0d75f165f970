/- The law's sanity check. -/
import Derived.Test.YtdpnkbbphfcngaaGX
namespace Go.Proofs.Ytdpnkbbphfcngaa
open Go.RowKit Go.Shelf

def awL : List Rc := [⟨0, 0, 2, 1⟩, ⟨1, 0, 3, 2⟩]
def awC : List Rc := [⟨0, 0, 3, 1⟩, ⟨1, 1, 3, 2⟩]
theorem awC_canonical : Canonical awC := by
  refine ⟨[⟨0, 1, [(0, 3)]⟩, ⟨1, 2, [(1, 3)]⟩], ⟨?_, ?_⟩, rfl⟩
  · simp [rok, rch]
  · intro b hb
    simp at hb
    rcases hb with rfl | rfl <;> simp [sok, runs, rch]
theorem awC_for : CanonFor (insideB awL) awC := awC_canonical.for.congr fun x y => by
  rw [Bool.eq_iff_iff]
  simp [awC, awL, insideB, insR]
  omega
theorem awC_valid : ValidP awC := ⟨by decide, by intro r hr; simp [awC] at hr; rcases hr with rfl | rfl <;> simp [properR], awC_canonical⟩
theorem aw_of {out : List Rc} {e : Int} (h : OfR awL out e) : out = awC ∧ e = 0 :=
  h.det (.inr (.inr ⟨by decide, by decide, awC, awC_for, .inr ⟨by decide, rfl, rfl⟩⟩))

/-- A literal of two rectangles. -/
theorem lit2 (w : World) (p q : Rc) : RectsAt (w.alloc (.cells #[.int .i64 p.l, .int .i64 p.b, .int .i64 p.r, .int .i64 p.h, .int .i64 q.l, .int .i64 q.b, .int .i64 q.r, .int .i64 q.h] 44)) (.slice (some ⟨w.heap.size, 0, none⟩) 2 2) [p, q] := by
  refine ⟨_, 2, rfl, by unfold maxLen; simp, Nat.le_refl _, fun j hj => ⟨_, 0, rfl, by simp, ?_⟩⟩
  have hb := BoxAt.new w #[.int .i64 p.l, .int .i64 p.b, .int .i64 p.r, .int .i64 p.h, .int .i64 q.l, .int .i64 q.b, .int .i64 q.r, .int .i64 q.h] 44
  match j, hj with
  | 0, _ => exact ⟨hb.cell (i := 0) rfl, hb.cell (i := 1) rfl, hb.cell (i := 2) rfl, hb.cell (i := 3) rfl⟩
  | 1, _ => exact ⟨hb.cell (i := 4) rfl, hb.cell (i := 5) rfl, hb.cell (i := 6) rfl, hb.cell (i := 7) rfl⟩

set_option maxHeartbeats 4000000 in
set_option maxRecDepth 100000 in
theorem awake_any (w : World) : Calls Try.prog 12 #[] w fun e w' => e = .returned (.bool true) ∧ Below w.heap.size w w' := by
  have hOf := of_any _ _ _ (lit2 w ⟨0, 0, 2, 1⟩ ⟨1, 0, 3, 2⟩)
  go_enter Try.func12, Try.ntmps12
  go_wp2_with fail
  refine Calls.mono hOf ?_
  rintro e w1 ⟨⟨v, l, c, rfl, hr, hv, hof⟩, hb1⟩
  obtain ⟨rfl, rfl⟩ := aw_of hof
  have B1 := Lib.hid (below_new hb1)
  have s1 := hb1.size
  clear hOf hof hb1
  obtain ⟨p, cap, rfl⟩ := hr.shape
  have HR := Lib.hid hr
  clear hr hv
  have f0 := (BoxAt.new w1 #[.slice none 0 0] 24).free 0
  go_wp2_with fail
  have b2 := (BoxAt.new w1 #[.slice p awC.length cap] 24).alloc (.cells #[.int .i64 0, .int .i64 0, .int .i64 3, .int .i64 1, .int .i64 1, .int .i64 1, .int .i64 3, .int .i64 2] 44)
  have r2 := HR.out.below (show Below w1.heap.size w1 ((w1.alloc (.cells #[.slice p awC.length cap] 24)).alloc (.cells #[.int .i64 0, .int .i64 0, .int .i64 3, .int .i64 1, .int .i64 1, .int .i64 1, .int .i64 3, .int .i64 2] 44)) from ((Below.refl _ _).alloc (Nat.le_refl _) _).alloc (by simp) _)
  have l2 := lit2 (w1.alloc (.cells #[.slice p awC.length cap] 24)) ⟨0, 0, 3, 1⟩ ⟨1, 1, 3, 2⟩
  have B2 := Lib.hid (show Below w.heap.size w ((w1.alloc (.cells #[.slice p awC.length cap] 24)).alloc (.cells #[.int .i64 0, .int .i64 0, .int .i64 3, .int .i64 1, .int .i64 1, .int .i64 1, .int .i64 3, .int .i64 2] 44)) from (B1.out.alloc B1.out.size _).alloc (by have := B1.out.size; simp; omega) _)
  rw [show (w1.alloc (.cells #[.slice p awC.length cap] 24)).heap.size = w1.heap.size + 1 by simp] at l2
  dsimp only at l2
  generalize (w1.alloc (.cells #[.slice p awC.length cap] 24)).alloc (.cells #[.int .i64 0, .int .i64 0, .int .i64 3, .int .i64 1, .int .i64 1, .int .i64 1, .int .i64 3, .int .i64 2] 44) = w2 at *
  generalize w1.heap.size = bb at *
  have hRe := refRects_any _ _ _ _ w2 r2 l2
  clear l2 f0 HR B1 s1
  refine Calls.mono hRe ?_
  rintro e w3 ⟨hr3, hb3⟩
  obtain rfl := hr3.is_yes rfl
  have b3 := b2.below hb3
  have r3 := r2.below hb3
  have B3 := Lib.hid (below_step B2.out hb3)
  have c3 := b3.cell (i := 0) rfl
  have hAr := area_any _ _ w3 r3
  clear hRe hr3 hb3 b2 r2 B2
  go_wp2_with fail
  refine Calls.mono hAr ?_
  rintro e w4 ⟨z, rfl, ⟨hz, _⟩, hb4⟩
  obtain rfl := hz awC_valid
  have ha : areaL awC = 5 := by decide
  have b4 := b3.below hb4
  have r4 := r3.below hb4
  have B4 := Lib.hid (below_step B3.out hb4)
  have c4 := b4.cell (i := 0) rfl
  have hVa := valid_any _ _ w4 r4
  clear hAr hz hb4 b3 r3 B3 c3
  rw [ha]
  go_wp2_with fail
  refine Calls.mono hVa ?_
  rintro e w5 ⟨hr5, hb5⟩
  obtain rfl := hr5.is_yes awC_valid
  have b5 := b4.below hb5
  have r5 := r4.below hb5
  have B5 := Lib.hid (below_step B4.out hb5)
  have c5 := b5.cell (i := 0) rfl
  have hH1 := has_any _ _ 2 1 w5 r5
  clear hVa hr5 hb5 b4 r4 B4 c4
  go_wp2_with fail
  refine Calls.mono hH1 ?_
  rintro e w6 ⟨hr6, hb6⟩
  obtain rfl := hr6.is_yes ⟨awC_valid, by decide⟩
  have b6 := b5.below hb6
  have r6 := r5.below hb6
  have B6 := Lib.hid (below_step B5.out hb6)
  have c6 := b6.cell (i := 0) rfl
  have hH2 := has_any _ _ 0 1 w6 r6
  clear hH1 hr6 hb6 b5 r5 B5 c5
  go_wp2_with fail
  refine Calls.mono hH2 ?_
  rintro e w7 ⟨hr7, hb7⟩
  obtain rfl := hr7.is_no fun h => absurd h.2 (by decide)
  have B7 := Lib.hid (below_step B6.out hb7)
  clear hH2 hr7 hb7 b6 r6 B6 c6
  go_wp2_with fail
  go_ret
  exact ⟨rfl, B7.out⟩
end Go.Proofs.Ytdpnkbbphfcngaa
