/- shape.Grow. -/
import Derived.Test.YtdpnkbbphfcngabHA
namespace Go.Proofs.Ytdpnkbbphfcngab
open Go.RowKit Go.Shelf

theorem valid_sm {l : List Rc} (h : ValidP l) : ∀ r ∈ l, Sm r := by
  intro r hr
  have := h.2.1 r hr
  unfold properR at this
  unfold Sm
  omega

/-- What Grow returns. -/
def GrowR (l : List Rc) (k : Int) (out : List Rc) (e : Int) : Prop :=
  (CheckR l k e ∧ e ≠ 0 ∧ out = []) ∨ (ValidP l ∧ 0 ≤ k ∧ k ≤ 64 ∧ OfR (l.map fun r => clipR (growR k r)) out e)

set_option maxHeartbeats 4000000 in
set_option maxRecDepth 100000 in
theorem grow_any (v : Value) (l : List Rc) (k : Int) (w : World) (h : RectsAt w v l) :
    Calls Try.prog 8 #[.agg #[v], .int .i64 k] w fun e w' => RetR w.heap.size w' e (GrowR l k) ∧ Below w.heap.size w w' := by
  obtain ⟨i0, hi, hz0, hz1, hz2⟩ := info_parts info_rect
  have HCk := Lib.hid (fun (w' : World) (hb : Below w.heap.size w w') => check_any v l k w' (h.below hb))
  have HGr := Lib.hid (fun (w' : World) (hb : Below w.heap.size w w') (pv : ValidP l) (k0 : 0 ≤ k) (k1 : k ≤ 64) => grown_any v l k w' (h.below hb) (valid_sm pv) k0 (by omega) (by have := pv.1; omega))
  obtain ⟨p, cap, rfl⟩ := h.shape
  have b2 : Below w.heap.size w ((w.alloc (.cells #[.slice p l.length cap] 25)).alloc (.cells #[.slice none 0 0] 25)) := ((Below.refl _ _).alloc (Nat.le_refl _) _).alloc (by simp) _
  have x1 : BoxAt ((w.alloc (.cells #[.slice p l.length cap] 25)).alloc (.cells #[.slice none 0 0] 25)) w.heap.size #[.slice p l.length cap] 25 := (BoxAt.new _ _ _).alloc _
  have x2 : BoxAt ((w.alloc (.cells #[.slice p l.length cap] 25)).alloc (.cells #[.slice none 0 0] 25)) (w.heap.size + 1) #[.slice none 0 0] 25 := by
    have := BoxAt.new (w.alloc (.cells #[.slice p l.length cap] 25)) #[.slice none 0 0] 25
    rwa [World.size_alloc] at this
  have B2 := Lib.hid b2
  have X1 := Lib.hid x1
  have X2 := Lib.hid x2
  clear b2 x1 x2 h
  obtain ⟨n, hn⟩ : ∃ n, n = l.length := ⟨_, rfl⟩
  rw [← hn] at HCk HGr B2 X1 X2 ⊢
  have N := Lib.hid hn
  clear hn
  go_enter Try.func8, Try.ntmps8
  go_wp2_with fail
  refine Calls.mono (HCk.out _ B2.out) ?_
  rintro e w1 ⟨⟨c, rfl, hc⟩, hb1⟩
  have B3 := Lib.hid (below_step B2.out hb1)
  have Y1 := X1.out.below hb1
  have Y2 := X2.out.below hb1
  have c1 := Y1.cell (i := 0) rfl
  have c2 := Y2.cell (i := 0) rfl
  have f2 := Y2.free 0
  have Y1 := Lib.hid Y1
  have Y2 := Lib.hid Y2
  have HC := Lib.hid hc
  clear hb1
  rcases hc with ⟨nv, rfl⟩ | ⟨pv, nk, rfl⟩ | ⟨pv, k0, k1, rfl⟩
  · clear nv
    go_wp2
    exact bodyPost_ret (ret_re rfl rfl rfl (Y2.out.set 0 (.slice none 0 0))) rfl ⟨⟨_, [], 7, rfl, RectsAt.nil _, nil_own _, .inl ⟨HC.out, by decide, rfl⟩⟩, B3.out.setCell (by show w.heap.size ≤ w.heap.size + 1; omega) _⟩
  · clear nk pv
    go_wp2
    exact bodyPost_ret (ret_re rfl rfl rfl (Y2.out.set 0 (.slice none 0 0))) rfl ⟨⟨_, [], 2, rfl, RectsAt.nil _, nil_own _, .inl ⟨HC.out, by decide, rfl⟩⟩, B3.out.setCell (by show w.heap.size ≤ w.heap.size + 1; omega) _⟩
  · have PV := Lib.hid pv
    have hn120 : (n : Int) ≤ 120 := by have := pv.1; rw [← N.out] at this; omega
    clear HC pv
    go_wp2_with fail
    refine Calls.mono (HGr.out _ B3.out PV.out k0 k1) ?_
    rintro e w2 ⟨gv, rfl, hg, hb2⟩
    have B4 := Lib.hid (below_step B3.out hb2)
    have Z2 := Lib.hid (Y2.out.below hb2)
    have hlg : (l.map (growR k)).length = n := by rw [List.length_map, ← N.out]
    obtain ⟨pg, cg, rfl⟩ := hg.shape
    rw [hlg] at hg ⊢
    have HG := Lib.hid hg
    have hw2 : w.heap.size ≤ w2.heap.size := B4.out.size
    have hz := Z2.out.lt
    clear hg hb2 c1 c2 f2
    go_wp2
    go_loopw [7, 22] (fun u i wr => ∃ j : Nat, j ≤ n ∧ i = .int .i64 j ∧ OwnAt wr w2.heap.size 49 4 encR u (((l.map (growR k)).take j).map clipR) ∧ Below w2.heap.size w2 wr) (fun _ i _ => n - (intOf i).toNat)
    case atStart => exact ⟨0, Nat.zero_le _, rfl, OwnAt.nil .., Below.refl _ _⟩
    case round =>
      obtain ⟨j, hj, rfl, hown, hb⟩ := hrel
      by_cases hjn : j < n
      · have hjl : j < (l.map (growR k)).length := by rw [hlg]; exact hjn
        have hE := HG.out.kept hb
        obtain ⟨g1, cap', e1, _, hg1, _⟩ := hE.form (by omega)
        rw [hlg] at e1
        cases e1
        have d0 := hE.cell encR_len hlg.symm hjl (i := 0) rfl
        have d1 := hE.cell encR_len hlg.symm hjl (i := 1) rfl
        have d2 := hE.cell encR_len hlg.symm hjl (i := 2) rfl
        have d3 := hE.cell encR_len hlg.symm hjl (i := 3) rfl
        simp only [Nat.add_zero] at d0
        have n1 : g1 ≠ wr.heap.size := by omega
        have hjn' : (j : Int) < (n : Int) := by omega
        have HE := Lib.hid (show ((l.map (growR k)).take (j + 1)).map clipR = ((l.map (growR k)).take j).map clipR ++ [clipR (l.map (growR k))[j]!] by
          rw [List.take_succ_eq_append_getElem hjl, List.map_append, getElem!_pos _ j hjl]; rfl)
        have hlen : (((l.map (growR k)).take j).map clipR).length = j := by rw [List.length_map, List.length_take, hlg]; omega
        have HB := Lib.hid hb
        have hxs := hown
        unfold OwnAt at hxs
        rw [hlen] at hxs
        clear hE hb hown
        generalize (l.map (growR k))[j]! = r at *
        generalize hl0 : ((l.map (growR k)).take j).map clipR = l0 at *
        generalize hxe : l0.flatMap encR = xs at hxs
        have HX := Lib.hid hxs
        clear hxs
        go_wp2_with (first
          | (go_at_call 25; refine (clip_any r _).mono ?_; rintro e w3 ⟨rfl, hb3⟩; have H3 := Lib.hid (below_new hb3); have HX3 := Lib.hid (World.ownsRow.kept HX.out (gr_of_below H3.out) (Classical.em _)); clear hb3)
          | (at_builtin; refine wpList_append_own _ rfl _ _ 23 rfl w2.heap.size 49 i0 _ 4 32 Try.underlying23 hi hz0 hz1 hz2 rfl (by decide) _ _ _ rfl (HX3.out.alloc _) ⟨w3.heap.size, 0, none⟩ 1 1 [.int .i64 (clipR r).l, .int .i64 (clipR r).b, .int .i64 (clipR r).r, .int .i64 (clipR r).h] rfl rfl ?c1 ?c2 ?c3 ?c4 ?c5 ?_))
        case c1 => exact news_at (by simp)
        case c2 => exact List.all_eq_true.1 (by rfl)
        case c3 => unfold maxLen; omega
        case c4 => omega
        case c5 => have := HB.out.size; have := H3.out.size; simp; omega
        intro v' w4 hown1 hgrow _
        subst hxe
        have HB2 := Lib.hid ((((below_step HB.out H3.out).alloc (by have := HB.out.size; have := H3.out.size; omega) _).grown hgrow (by have := HB.out.size; have := H3.out.size; simp; omega) (ownsRow_ge HX.out)))
        have HO2 := Lib.hid (OwnAt.snoc (l := l0) (m := [clipR r]) (enc := encR) (n := 1) rfl (by rw [hlen]; exact hown1))
        clear hown1 hgrow
        go_wp2
        go_roundw
        case rel => exact ⟨j + 1, by omega, by simp, by rw [HE.out]; exact HO2.out, HB2.out⟩
        case measure => simp [intOf]; omega
      · obtain rfl : j = n := by omega
        have hfull : ((l.map (growR k)).take j).map clipR = l.map fun r => clipR (growR k r) := by
          rw [List.take_of_length_le (by rw [hlg]; exact Nat.le_refl _), List.map_map]; rfl
        rw [hfull] at hown
        have HOf := Lib.hid (of_any _ _ wr hown.rects)
        have B5 := Lib.hid (below_step B4.out hb)
        have U2 := Lib.hid (Z2.out.below hb)
        clear hown hb hfull
        go_wp2_with fail
        refine Calls.mono HOf.out ?_
        rintro e w5 ⟨⟨v5, l5, e5, rfl, hr5, hv5, hL5⟩, hb5⟩
        obtain ⟨p5, k5, rfl⟩ := hr5.shape
        have B6 := Lib.hid (below_step B5.out hb5)
        have R2 := U2.out.below hb5
        have c5 := R2.cell (i := 0) rfl
        have f5 := R2.free 0
        have hsz := B5.out.size
        have hszz := U2.out.lt
        have R2 := Lib.hid R2
        have HR5 := Lib.hid hr5
        have HV5 := Lib.hid hv5
        have HL5 := Lib.hid hL5
        clear hr5 hv5 hL5 hb5
        go_wp2
        refine bodyPost_ret (ret_re rfl rfl rfl (R2.out.set 0 (.slice p5 l5.length k5))) rfl ⟨⟨_, l5, e5, rfl, HR5.out.set (fun q hq => ?_) _ _, (fun q hq => ?_), .inr ⟨PV.out, k0, k1, HL5.out⟩⟩, B6.out.setCell (by show w.heap.size ≤ w.heap.size + 1; omega) _⟩
        · have := HV5.out q hq; omega
        · have := HV5.out q hq; omega
end Go.Proofs.Ytdpnkbbphfcngab
