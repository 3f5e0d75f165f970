/- The law's sanity check (chapter 6). -/
import Derived.Test.YtdpnkbbphfcngabHF
import Derived.Test.YtdpnkbbphfcngabHC
import Derived.Test.YtdpnkbbphfcngabGX
namespace Go.Proofs.Ytdpnkbbphfcngab
open Go.RowKit Go.Shelf

def paL : List Rc := [⟨0, 0, 1, 1⟩, ⟨1, 1, 2, 2⟩]
theorem paL_valid : ValidP paL := by
  refine ⟨by decide, by intro r hr; simp [paL] at hr; rcases hr with rfl | rfl <;> simp [properR], ⟨[⟨0, 1, [(0, 1)]⟩, ⟨1, 2, [(1, 2)]⟩], ⟨?_, ?_⟩, rfl⟩⟩
  · simp [rok, rch]
  · intro b hb
    simp at hb
    rcases hb with rfl | rfl <;> simp [sok, runs, rch]
def grL : List Rc := [⟨5, 5, 6, 6⟩]
def grC : List Rc := [⟨4, 4, 7, 7⟩]
theorem one_canonical {r : Rc} (h1 : r.l < r.r) (h2 : r.b < r.h) : Canonical [r] := by
  refine ⟨[⟨r.b, r.h, [(r.l, r.r)]⟩], ⟨?_, ?_⟩, rfl⟩
  · simp [rok, rch, h2]
  · intro b hb
    simp at hb
    subst hb
    simp [sok, runs, rch, h1]
theorem grL_valid : ValidP grL := ⟨by decide, by intro r hr; simp [grL] at hr; subst hr; simp [properR], one_canonical (by decide) (by decide)⟩
theorem aw_grow {out : List Rc} {e : Int} (h : GrowR grL 1 out e) : out = grC ∧ e = 0 := by
  rcases h with ⟨hc, h0, _⟩ | ⟨_, _, _, h⟩
  · rcases hc with ⟨hn, _⟩ | ⟨_, hn, _⟩ | ⟨_, _, _, rfl⟩
    · exact absurd grL_valid hn
    · exact absurd (by decide) hn
    · exact absurd rfl h0
  · exact h.det (.inr (.inr ⟨by decide, by decide, grC, (one_canonical (r := ⟨4, 4, 7, 7⟩) (by decide) (by decide)).for, .inr ⟨by decide, rfl, rfl⟩⟩))

/-- A literal of two rectangles. -/
theorem lit2H (w : World) (p q : Rc) : RectsAt (w.alloc (.cells #[.int .i64 p.l, .int .i64 p.b, .int .i64 p.r, .int .i64 p.h, .int .i64 q.l, .int .i64 q.b, .int .i64 q.r, .int .i64 q.h] 49)) (.slice (some ⟨w.heap.size, 0, none⟩) 2 2) [p, q] := by
  refine ⟨_, 2, rfl, by unfold maxLen; simp, Nat.le_refl _, fun j hj => ⟨_, 0, rfl, by simp, ?_⟩⟩
  have hb := BoxAt.new w #[.int .i64 p.l, .int .i64 p.b, .int .i64 p.r, .int .i64 p.h, .int .i64 q.l, .int .i64 q.b, .int .i64 q.r, .int .i64 q.h] 49
  match j, hj with
  | 0, _ => exact ⟨hb.cell (i := 0) rfl, hb.cell (i := 1) rfl, hb.cell (i := 2) rfl, hb.cell (i := 3) rfl⟩
  | 1, _ => exact ⟨hb.cell (i := 4) rfl, hb.cell (i := 5) rfl, hb.cell (i := 6) rfl, hb.cell (i := 7) rfl⟩
theorem pa_at (w : World) : RectsAt (w.alloc (.cells #[.int .i64 0, .int .i64 0, .int .i64 1, .int .i64 1, .int .i64 1, .int .i64 1, .int .i64 2, .int .i64 2] 49)) (.slice (some ⟨w.heap.size, 0, none⟩) 2 2) paL := lit2H w ⟨0, 0, 1, 1⟩ ⟨1, 1, 2, 2⟩
theorem gr_at (w : World) : RectsAt (w.alloc (.cells #[.int .i64 5, .int .i64 5, .int .i64 6, .int .i64 6] 49)) (.slice (some ⟨w.heap.size, 0, none⟩) 1 1) grL := rects_one w ⟨5, 5, 6, 6⟩
theorem gc_at (w : World) : RectsAt (w.alloc (.cells #[.int .i64 4, .int .i64 4, .int .i64 7, .int .i64 7] 49)) (.slice (some ⟨w.heap.size, 0, none⟩) 1 1) grC := rects_one w ⟨4, 4, 7, 7⟩
theorem pa_groups : (groupsL paL paL.length).2.length = 2 := by decide

set_option maxHeartbeats 4000000 in
set_option maxRecDepth 100000 in
theorem awake6_any (w : World) : Calls Try.prog 11 #[] w fun e w' => e = .returned (.bool true) ∧ Below w.heap.size w w' := by
  have B0 := Lib.hid (show Below w.heap.size w (w.alloc (.cells #[.int .i64 0, .int .i64 0, .int .i64 1, .int .i64 1, .int .i64 1, .int .i64 1, .int .i64 2, .int .i64 2] 49)) from (Below.refl _ _).alloc (Nat.le_refl _) _)
  have HP := Lib.hid (parts_any _ paL _ (pa_at w))
  go_enter Try.func11, Try.ntmps11
  go_wp2_with fail
  refine Calls.mono HP.out ?_
  rintro e w1 ⟨⟨v1, ps, c1, rfl, hps, hq⟩, hb1⟩
  have B1 := Lib.hid (below_step B0.out hb1)
  rcases hq with ⟨h1, _⟩ | ⟨_, hall, rfl⟩
  · exact absurd paL_valid h1
  have hlen : ps.length = 2 := by rw [← hall.length]; exact pa_groups
  obtain ⟨p1, k1, rfl⟩ := hps.1.shape
  rw [hlen]
  have HG := Lib.hid (grow_any _ grL 1 _ (gr_at w1))
  have B2 := Lib.hid (show Below w.heap.size w (w1.alloc (.cells #[.int .i64 5, .int .i64 5, .int .i64 6, .int .i64 6] 49)) from B1.out.alloc B1.out.size _)
  clear hps hall hlen hb1 HP B0
  go_wp2_with fail
  refine Calls.mono HG.out ?_
  rintro e w2 ⟨⟨v2, l2, c2, rfl, hr2, hv2, hg2⟩, hb2⟩
  obtain ⟨rfl, rfl⟩ := aw_grow hg2
  have B3 := Lib.hid (below_step B2.out hb2)
  obtain ⟨p2, k2, rfl⟩ := hr2.shape
  have hg1 : grC.length = 1 := rfl
  rw [hg1] at hr2 ⊢
  have HR2 := Lib.hid hr2
  clear hr2 hv2 hg2 hb2 HG hg1
  have hb4 : Below w2.heap.size w2 ((w2.alloc (.cells #[.slice p2 1 k2] 25)).alloc (.cells #[.int .i64 4, .int .i64 4, .int .i64 7, .int .i64 7] 49)) := ((Below.refl _ _).alloc (Nat.le_refl _) _).alloc (by simp) _
  have hgc := gc_at (w2.alloc (.cells #[.slice p2 1 k2] 25))
  rw [World.size_alloc] at hgc
  have HRe := Lib.hid (refRects_any _ _ grC grC _ (HR2.out.below hb4) hgc)
  have B4 := Lib.hid (below_step B3.out hb4)
  clear hb4 hgc
  go_wp2_with fail
  refine Calls.mono HRe.out ?_
  rintro e w3 ⟨hr3, hb3⟩
  obtain rfl := hr3.is_yes trivial
  have B5 := Lib.hid (below_step B4.out hb3)
  clear hr3 hb3
  go_wp2
  go_ret
  exact ⟨rfl, B5.out⟩
end Go.Proofs.Ytdpnkbbphfcngab
