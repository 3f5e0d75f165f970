/- shape: outside, between, clipped, grown. -/
import Derived.Test.YtdpnkbbphfcngabGN
namespace Go.Proofs.Ytdpnkbbphfcngab
open Go.RowKit Go.Shelf

theorem outsideS_any (n a b : Int) (w : World) : Calls Try.prog 35 #[.int .i64 n, .int .i64 a, .int .i64 b] w fun e w' => e = .returned (.bool (decide (n < a ∨ b < n))) ∧ w = w' := by
  by_cases h1 : n < a
  · go_enter Try.func35, Try.ntmps35
    go_wp2
    go_ret
    exact ⟨ret_bool (by simp [h1]), rfl⟩
  · by_cases h2 : b < n
    · go_enter Try.func35, Try.ntmps35
      go_wp2
      go_ret
      exact ⟨ret_bool (by simp [h2]), rfl⟩
    · go_enter Try.func35, Try.ntmps35
      go_wp2
      go_ret
      exact ⟨ret_bool (by simp [h1, h2]), rfl⟩

/-- How many edges are between two rectangles. -/
def btw (p q : Rc) : Int :=
  if min p.r q.r - max p.l q.l = 0 then max (min p.h q.h - max p.b q.b) 0
  else if min p.h q.h - max p.b q.b = 0 then max (min p.r q.r - max p.l q.l) 0 else 0

/-- A rectangle with coordinates that can be reckoned with. -/
def Sm (r : Rc) : Prop := -100000 ≤ r.l ∧ r.l ≤ 100000 ∧ -100000 ≤ r.b ∧ r.b ≤ 100000 ∧ -100000 ≤ r.r ∧ r.r ≤ 100000 ∧ -100000 ≤ r.h ∧ r.h ≤ 100000

theorem btwS_any (p q : Rc) (w : World) (hp : Sm p) (hq : Sm q) : Calls Try.prog 38 #[.agg #[.int .i64 p.l, .int .i64 p.b, .int .i64 p.r, .int .i64 p.h], .agg #[.int .i64 q.l, .int .i64 q.b, .int .i64 q.r, .int .i64 q.h]] w fun e w' => e = .returned (.int .i64 (btw p q)) ∧ Below w.heap.size w w' := by
  obtain ⟨p1, p2, p3, p4, p5, p6, p7, p8⟩ := hp
  obtain ⟨q1, q2, q3, q4, q5, q6, q7, q8⟩ := hq
  have bel : Below w.heap.size w ((w.alloc (.cells #[.int .i64 p.l, .int .i64 p.b, .int .i64 p.r, .int .i64 p.h] 49)).alloc (.cells #[.int .i64 q.l, .int .i64 q.b, .int .i64 q.r, .int .i64 q.h] 49)) := ((Below.refl _ _).alloc (Nat.le_refl _) _).alloc (by simp) _
  have BEL := Lib.hid bel
  clear bel
  by_cases h1 : min p.r q.r - max p.l q.l = 0
  · have E := Lib.hid (show btw p q = max (min p.h q.h - max p.b q.b) 0 by simp only [btw]; rw [if_pos h1])
    go_enter Try.func38, Try.ntmps38
    go_wp2
    go_ret
    exact ⟨by rw [E.out]; rfl, BEL.out⟩
  · by_cases h2 : min p.h q.h - max p.b q.b = 0
    · have E := Lib.hid (show btw p q = max (min p.r q.r - max p.l q.l) 0 by simp only [btw]; rw [if_neg h1, if_pos h2])
      go_enter Try.func38, Try.ntmps38
      go_wp2
      go_ret
      exact ⟨by rw [E.out]; rfl, BEL.out⟩
    · have E := Lib.hid (show btw p q = 0 by simp only [btw]; rw [if_neg h1, if_neg h2])
      go_enter Try.func38, Try.ntmps38
      go_wp2
      go_ret
      exact ⟨by rw [E.out]; rfl, BEL.out⟩

/-- What is in the grid of a rectangle. -/
def clipR (r : Rc) : Rc := ⟨max r.l 0, max r.b 0, min r.r 16384, min r.h 16384⟩

theorem ret_rectH {fn : Func} {c : Nat} (hr : fn.results = #[.cell c 49]) {tmps : Array Value} {W : World} {a0 a1 a2 a3 : Value} {p : Nat} (hp : tmps.getD c undef = .pointer (some ⟨p, 0, none⟩)) (hb : BoxAt W p #[a0, a1, a2, a3] 49) :
    (results fn tmps).run Try.prog W = .ok (.agg #[a0, a1, a2, a3]) W := by
  have z0 := hb.cell (i := 0) rfl
  have z1 := hb.cell (i := 1) rfl
  have z2 := hb.cell (i := 2) rfl
  have z3 := hb.cell (i := 3) rfl
  have hp' : tmps[c]?.getD undef = .pointer (some ⟨p, 0, none⟩) := by simpa using hp
  simp [results, hr, hp', Try.isAgg49, Try.sizeOf49, loadCellsFrom, go_sem, z0, z1, z2, z3]

theorem clip_any (r : Rc) (w : World) : Calls Try.prog 25 #[.agg #[.int .i64 r.l, .int .i64 r.b, .int .i64 r.r, .int .i64 r.h]] w fun e w' => e = .returned (.agg #[.int .i64 (clipR r).l, .int .i64 (clipR r).b, .int .i64 (clipR r).r, .int .i64 (clipR r).h]) ∧ Below w.heap.size w w' := by
  have bx := BoxAt.new (w.alloc (.cells #[.int .i64 r.l, .int .i64 r.b, .int .i64 r.r, .int .i64 r.h] 49)) #[.int .i64 (max r.l 0), .int .i64 (max r.b 0), .int .i64 (min r.r 16384), .int .i64 (min r.h 16384)] 49
  rw [World.size_alloc] at bx
  have BX := Lib.hid bx
  clear bx
  go_enter Try.func25, Try.ntmps25
  go_wp2
  exact bodyPost_ret (ret_rectH rfl rfl BX.out) rfl ⟨rfl, ((Below.refl _ _).alloc (Nat.le_refl _) _).alloc (by simp) _⟩

def growR (k : Int) (r : Rc) : Rc := ⟨r.l - k, r.b - k, r.r + k, r.h + k⟩

set_option maxHeartbeats 2000000 in
set_option maxRecDepth 100000 in
theorem grown_any (v : Value) (l : List Rc) (K : Int) (w : World) (h : RectsAt w v l) (hs : ∀ r ∈ l, Sm r) (hK0 : 0 ≤ K) (hK1 : K ≤ 1000) (hl : l.length ≤ 1000000000000) :
    Calls Try.prog 24 #[v, .int .i64 K] w fun e w' => ∃ v', e = .returned v' ∧ OwnAt w' w.heap.size 49 4 encR v' (l.map (growR K)) ∧ Below w.heap.size w w' := by
  obtain ⟨p, cap, rfl, hm, hcp, h⟩ := h
  obtain ⟨i0, hi, hz0, hz1, hz2⟩ := info_parts info_rect
  have HS := Lib.hid hs
  have HR := Lib.hid h
  obtain ⟨n, hn⟩ : ∃ n, n = l.length := ⟨_, rfl⟩
  rw [← hn] at hm hcp ⊢
  have N := Lib.hid hn
  have hn' : (n : Int) ≤ 1000000000000 := by omega
  clear h hn hs hl
  go_enter Try.func24, Try.ntmps24
  go_wp2
  go_loopw [5, 10] (fun u i wr => ∃ k : Nat, k ≤ n ∧ i = .int .i64 k ∧ OwnAt wr w.heap.size 49 4 encR u ((l.take k).map (growR K)) ∧ Below w.heap.size w wr) (fun _ i _ => n - (intOf i).toNat)
  case atStart => exact ⟨0, Nat.zero_le _, rfl, OwnAt.nil .., Below.refl _ _⟩
  case round =>
    obtain ⟨k, hk, rfl, hown, hb⟩ := hrel
    by_cases hkn : k < n
    · obtain ⟨b, off, rfl, hlt, hc⟩ := HR.out k (by rw [← N.out]; exact hkn)
      obtain ⟨c0, c1, c2, c3⟩ := hc.below hb hlt
      have hkn' : (k : Int) < (n : Int) := by omega
      have HB := Lib.hid hb
      have hkl : k < l.length := by rw [← N.out]; exact hkn
      have HE := Lib.hid (show (l.take (k + 1)).map (growR K) = (l.take k).map (growR K) ++ [growR K l[k]!] by
        rw [List.take_succ_eq_append_getElem hkl, List.map_append, getElem!_pos l k hkl]; rfl)
      obtain ⟨s1, s2, s3, s4, s5, s6, s7, s8⟩ := HS.out l[k]! (by rw [getElem!_pos l k hkl]; exact List.getElem_mem _)
      have hlen : ((l.take k).map (growR K)).length = k := by rw [List.length_map, List.length_take]; omega
      have hxs := hown
      unfold OwnAt at hxs
      rw [hlen] at hxs
      clear hc hb hown
      generalize l[k]! = r at *
      generalize hl0 : (l.take k).map (growR K) = l0 at *
      generalize hxe : l0.flatMap encR = xs at hxs
      go_wp2_with (first | (at_builtin; refine wpList_append_own _ rfl _ _ 23 rfl w.heap.size 49 i0 _ 4 32 Try.underlying23 hi hz0 hz1 hz2 rfl (by decide) _ _ _ rfl ((hxs.alloc _).alloc _) ⟨wr.heap.size + 1, 0, none⟩ 1 1 [.int .i64 (r.l - K), .int .i64 (r.b - K), .int .i64 (r.r + K), .int .i64 (r.h + K)] rfl rfl ?c1 ?c2 ?c3 ?c4 ?c5 ?_))
      case c1 => exact news_at (by simp)
      case c2 => exact List.all_eq_true.1 (by rfl)
      case c3 => unfold maxLen; omega
      case c4 => omega
      case c5 => have := HB.out.size; simp; omega
      intro v' w1 hown1 hgrow _
      subst hxe
      have HB2 := Lib.hid ((((HB.out.alloc HB.out.size _).alloc (by have := HB.out.size; simp; omega) _).grown hgrow (by have := HB.out.size; simp; omega) (ownsRow_ge hxs)))
      have HO2 := Lib.hid (OwnAt.snoc (l := l0) (m := [growR K r]) (enc := encR) (n := 1) rfl (by rw [hlen]; exact hown1))
      clear hxs hown1 hgrow
      go_wp2
      go_roundw
      case rel => exact ⟨k + 1, by omega, by simp, by rw [HE.out]; exact HO2.out, HB2.out⟩
      case measure => simp [intOf]; omega
    · have HB := Lib.hid hb
      have HO := Lib.hid hown
      obtain rfl : k = n := by omega
      clear hb hown
      go_wp2
      go_ret
      refine ⟨_, rfl, ?_, HB.out⟩
      have := HO.out
      rwa [List.take_of_length_le (by rw [N.out]; exact Nat.le_refl _)] at this

/-- What check finds. -/
def CheckR (l : List Rc) (k c : Int) : Prop := (¬ ValidP l ∧ c = 7) ∨ (ValidP l ∧ ¬ (0 ≤ k ∧ k ≤ 64) ∧ c = 2) ∨ (ValidP l ∧ 0 ≤ k ∧ k ≤ 64 ∧ c = 0)

set_option maxHeartbeats 1000000 in
theorem check_any (v : Value) (l : List Rc) (k : Int) (w : World) (h : RectsAt w v l) :
    Calls Try.prog 23 #[.agg #[v], .int .i64 k] w fun e w' => (∃ c, e = .returned (.int .i64 c) ∧ CheckR l k c) ∧ Below w.heap.size w w' := by
  have HV := Lib.hid (fun (w' : World) (hb : Below w.heap.size w w') => valid_any v l w' (h.below hb))
  obtain ⟨p, cap, rfl⟩ := h.shape
  have HB0 := Lib.hid (show Below w.heap.size w (w.alloc (.cells #[.slice p l.length cap] 25)) from (Below.refl _ _).alloc (Nat.le_refl _) _)
  clear h
  generalize l.length = n at *
  by_cases hv : ValidP l
  · have HP := Lib.hid hv
    clear hv
    by_cases h2 : k < 0 ∨ 64 < k
    · have hd := decide_eq_true h2
      have HC := Lib.hid (show CheckR l k 2 from .inr (.inl ⟨HP.out, by omega, rfl⟩))
      go_enter Try.func23, Try.ntmps23
      go_wp2_with (first
        | (go_at_call 34; refine Calls.mono (HV.out _ HB0.out) ?_; rintro e w1 ⟨hr, hb⟩; obtain rfl := hr.is_yes HP.out; have HB := Lib.hid (below_step HB0.out hb); clear hb hr)
        | (go_at_call 35; refine (outsideS_any _ _ _ _).mono ?_; rintro e w' ⟨rfl, rfl⟩; rw [hd]))
      go_ret
      exact ⟨⟨2, rfl, HC.out⟩, HB.out⟩
    · have hd := decide_eq_false h2
      have HC := Lib.hid (show CheckR l k 0 from .inr (.inr ⟨HP.out, by omega, by omega, rfl⟩))
      go_enter Try.func23, Try.ntmps23
      go_wp2_with (first
        | (go_at_call 34; refine Calls.mono (HV.out _ HB0.out) ?_; rintro e w1 ⟨hr, hb⟩; obtain rfl := hr.is_yes HP.out; have HB := Lib.hid (below_step HB0.out hb); clear hb hr)
        | (go_at_call 35; refine (outsideS_any _ _ _ _).mono ?_; rintro e w' ⟨rfl, rfl⟩; rw [hd]))
      go_ret
      exact ⟨⟨0, rfl, HC.out⟩, HB.out⟩
  · have HP := Lib.hid hv
    clear hv
    have HC := Lib.hid (show CheckR l k 7 from .inl ⟨HP.out, rfl⟩)
    go_enter Try.func23, Try.ntmps23
    go_wp2_with (first
      | (go_at_call 34; refine Calls.mono (HV.out _ HB0.out) ?_; rintro e w1 ⟨hr, hb⟩; obtain rfl := hr.is_no HP.out; have HB := Lib.hid (below_step HB0.out hb); clear hb hr))
    go_ret
    exact ⟨⟨7, rfl, HC.out⟩, HB.out⟩
end Go.Proofs.Ytdpnkbbphfcngab
