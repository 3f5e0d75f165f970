/- Tape.Region. -/
import Derived.Test.YtkpmgdhaollheaaGT
namespace Go.Proofs.Ytkpmgdhaollheaa
open Go.RowKit Go.Shelf

theorem gr_and {a b c : World} {row row' : Option Nat} (h : a.grownBy b row) (k : b.grownBy c row') (hr : ∀ j, row' = some j → a.heap.size ≤ j ∨ row = some j) : a.grownBy c row :=
  ⟨k.os.trans h.os, k.tape.trans h.tape, k.output.trans h.output, Nat.le_trans h.size k.size, fun i hi hne => (k.block i (Nat.lt_of_lt_of_le hi h.size) (fun e => by
    rcases hr i e.symm with h1 | h1
    · omega
    · exact hne h1.symm)).trans (h.block i hi hne)⟩
theorem gr_low {w w' : World} {B : Nat} {row : Option Nat} (h : Below B w w') (hB : w.heap.size ≤ B) : w.grownBy w' row :=
  ⟨h.os, h.tape, h.output, h.size, fun k hk _ => h.block k (by omega)⟩

/-- What comes back from Tape.Region: the form of at most so many rectangles. -/
structure Drawn (w w' : World) (tb : Nat) (side : Int) (most : Nat) (v : Value) (l : List Rc) : Prop where
  at_ : RectsAt w' v l
  new : ∀ k, v.ownBlock = some k → w.heap.size ≤ k
  of : ∃ m e, m.length ≤ most ∧ (∀ r ∈ m, InSide side r) ∧ OfR m l e
  gr : w.grownBy w' (some tb)
  tape : Tape w' tb

set_option maxHeartbeats 4000000 in
set_option maxRecDepth 100000 in
theorem region_any (w : World) (tb : Nat) (h : Tape w tb) (n : Int) (h1 : 1 ≤ n) (h2 : n ≤ 1000) (most : Nat) (hm : most ≤ 100) :
    Calls Try.prog 14 #[.pointer (some ⟨tb, 0, none⟩), .int .i64 n, .int .i64 most] w fun e w' => ∃ v l, e = .returned (.agg #[v]) ∧ Drawn w w' tb n most v l := by
  obtain ⟨i0, hi, hz0, hz1, hz2⟩ := info_parts info_rect
  have hlt := h.lt
  have hN0 := next_any (w.alloc (.cells #[.slice none 0 0] 27)) tb (h.alloc _) ((most : Int) + 1) (by omega)
  have wm : wrap64 ((most : Int) + 1) = (most : Int) + 1 := wrap_in (by omega) (by omega)
  clear h
  go_enter Try.func14, Try.ntmps14
  go_wp2_with fail
  refine hN0.mono ?_
  rintro e w1 ⟨x, rfl, ⟨x0, x1, _⟩, hg1, ht1⟩
  have hbx := (BoxAt.new w #[.slice none 0 0] 27).but hg1 (by simp; omega)
  have hG := gr_trans (World.grownBy_alloc w (.cells #[.slice none 0 0] 27) (some tb)) hg1
  have x2 := x1 (by omega)
  obtain ⟨k0, rfl⟩ := Int.eq_ofNat_of_zero_le x0
  have HS := Lib.hid (show k0 ≤ most ∧ BoxAt w1 w.heap.size #[.slice none 0 0] 27 ∧ w.grownBy w1 (some tb) ∧ Tape w1 tb from ⟨by omega, hbx, hG, ht1⟩)
  clear hN0 hg1 ht1 hbx hG x1 x0 x2
  go_wp2
  go_loopw [7, 8] (fun v7 v8 wr => ∃ (m : List Rc) (k : Nat), v8 = .int .i64 k ∧ m.length + k ≤ most ∧ (∀ r ∈ m, InSide n r) ∧ OwnAt wr w.heap.size 39 4 encR v7 m ∧ BoxAt wr w.heap.size #[.slice none 0 0] 27 ∧ w.grownBy wr (some tb) ∧ Tape wr tb) (fun _ v _ => (intOf v).toNat)
  case atStart => exact ⟨[], k0, rfl, by simpa using HS.out.1, (fun r hr => by cases hr), OwnAt.nil .., HS.out.2.1, HS.out.2.2.1, HS.out.2.2.2⟩
  case round =>
    clear HS
    obtain ⟨m, k, rfl, hlk, hin, hown, hbx, hG, hT⟩ := hrel
    obtain ⟨p7, c7, rfl⟩ := hown.shape
    have HIn := Lib.hid hin
    have hsz := hG.size
    have bz := hbx.lt
    by_cases hk0 : k = 0
    · subst hk0
      have HB := Lib.hid hbx
      have HG := Lib.hid hG
      have HT := Lib.hid hT
      have HO := Lib.hid hown
      have HC := Lib.hid (refOf_any (.slice p7 m.length c7) m wr hown.rects)
      clear hin hbx hG hT hown
      go_wp2_with fail
      refine Calls.mono HC.out ?_
      rintro e w2 ⟨⟨v, l, c, rfl, hr, hv, hof⟩, hb2⟩
      obtain ⟨p2, c2, rfl⟩ := hr.shape
      have G2 := Lib.hid (gr_trans HG.out (gr_low (row := some tb) hb2 (Nat.le_refl _)))
      have B2 := Lib.hid (HB.out.below hb2)
      have T2 := Lib.hid (HT.out.keep hb2 HT.out.lt)
      have s2 := hb2.size
      have z0 := (B2.out.alloc (.cells #[.slice p2 l.length c2] 27)).cell (i := 0) rfl
      have f0 := (B2.out.alloc (.cells #[.slice p2 l.length c2] 27)).free 0
      have HR := Lib.hid hr
      have HV := Lib.hid hv
      have HF := Lib.hid hof
      clear hr hv hof hb2 HC
      go_wp2
      refine bodyPost_ret (ret_reg rfl rfl ((B2.out.alloc _).set 0 (.slice p2 l.length c2))) rfl ⟨_, l, rfl, ⟨?_, ?_, ⟨m, c, by omega, HIn.out, HF.out⟩, ?_, ?_⟩⟩
      · exact (HR.out.below ((Below.refl _ _).alloc (Nat.le_refl _) _)).set (fun k hk => by have := HV.out k hk; omega) _ _
      · intro k hk; have := HV.out k hk; omega
      · exact gr_setNew (gr_trans G2.out (World.grownBy_alloc _ _ _)) (Nat.le_refl _) _ _
      · exact (T2.out.alloc _).set hlt _ _
    · have hk1 : (0 : Int) < (k : Int) := by omega
      have HB := Lib.hid hbx
      have HG := Lib.hid hG
      have HO := Lib.hid hown
      have HC := Lib.hid (rect_any wr tb hT n h1 h2)
      clear hin hbx hG hT hown
      go_wp2_with fail
      refine Calls.mono HC.out ?_
      rintro e w2 ⟨r, rfl, hir, hg2, ht2⟩
      have G2 := Lib.hid (gr_trans HG.out hg2)
      have B2 := Lib.hid (HB.out.but hg2 (by simp; omega))
      have hxs : w2.ownsRow w.heap.size 39 4 (.slice p7 m.length c7) m.length (m.flatMap encR) := World.ownsRow.kept HO.out hg2 (by
        rcases p7 with _ | ⟨b7, o7, s7⟩
        · exact .inl rfl
        · exact .inr fun e => by have := ownsRow_ge HO.out tb e; omega)
      have HIr := Lib.hid hir
      have T2 := Lib.hid ht2
      have s2 := hg2.size
      clear hir hg2 ht2 HC HB HG HO
      generalize hl1 : m.length = len at *
      generalize hxe : m.flatMap encR = xs at hxs
      go_wp2_with (first | (at_builtin; refine wpList_append_own _ rfl _ _ 25 rfl w.heap.size 39 i0 _ 4 32 Try.underlying25 hi hz0 hz1 hz2 rfl (by decide) _ _ _ rfl (hxs.alloc _) ⟨w2.heap.size, 0, none⟩ 1 1 [.int .i64 r.l, .int .i64 r.b, .int .i64 r.r, .int .i64 r.h] rfl rfl ?c1 ?c2 ?c3 ?c4 ?c5 ?_))
      case c1 => exact news_at (cs := #[.int .i64 r.l, .int .i64 r.b, .int .i64 r.r, .int .i64 r.h]) rfl
      case c2 => exact fun u hu => by simp at hu; rcases hu with rfl | rfl | rfl | rfl <;> rfl
      case c3 => unfold maxLen; omega
      case c4 => omega
      case c5 => simp; omega
      intro v' w3 hown3 hgrow _
      subst hxe
      have G3 := Lib.hid (gr_and (gr_trans G2.out (World.grownBy_alloc _ _ _)) hgrow (fun j e => .inl (ownsRow_ge hxs j e)))
      have B3 := Lib.hid ((B2.out.alloc _).grown (by decide) hgrow (hxs.alloc _))
      have T3 := Lib.hid ((T2.out.alloc _).grown hgrow (fun j e => by have := ownsRow_ge hxs j e; omega))
      have O3 := Lib.hid (OwnAt.snoc (l := m) (m := [r]) (n := 1) (enc := encR) rfl (by rw [hl1]; exact hown3))
      clear hxs hown3 hgrow G2 B2 T2
      go_wp2
      go_roundw
      case rel =>
        refine ⟨m ++ [r], k - 1, ?_, ?_, ?_, O3.out, B3.out, G3.out, T3.out⟩
        · simp; omega
        · rw [List.length_append, List.length_singleton]; omega
        · intro q hq
          rcases List.mem_append.1 hq with hq | hq
          · exact HIn.out q hq
          · rw [List.mem_singleton] at hq; subst hq; exact HIr.out
      case measure => simp [intOf]; omega
end Go.Proofs.Ytkpmgdhaollheaa
