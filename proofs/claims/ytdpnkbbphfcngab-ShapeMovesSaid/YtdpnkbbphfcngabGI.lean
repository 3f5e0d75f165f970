/- stack: a band above others, or the last one higher. -/
import Derived.Test.YtdpnkbbphfcngabGH
import Derived.Deep.RegionHeld3
namespace Go.Proofs.Ytdpnkbbphfcngab
open Go.RowKit Go.Shelf

theorem gr_weak {w w' : World} {row : Option Nat} (h : w.grownBy w' none) : w.grownBy w' row := ⟨h.os, h.tape, h.output, h.size, fun k hk _ => h.block k hk (by simp)⟩

def pushB : List BB → BB → List BB
  | [], n => [n]
  | [b], n => if b.hi = n.lo ∧ b.c = n.c then [⟨b.lo, n.hi, b.v, b.c⟩] else [b, n]
  | b :: d :: l, n => b :: pushB (d :: l) n

theorem band_pushB (n : BB) : ∀ l : List BB, (pushB l n).map BB.band = push (l.map BB.band) n.band
  | [] => rfl
  | [b] => by
    simp only [pushB, List.map_cons, List.map_nil, push, BB.band]
    by_cases h : b.hi = n.lo ∧ b.c = n.c
    · rw [if_pos h, if_pos h]; rfl
    · rw [if_neg h, if_neg h]; rfl
  | b :: d :: l => by
    show _ :: (pushB (d :: l) n).map BB.band = _
    rw [band_pushB n (d :: l)]
    rfl
theorem pushB_snoc (b n : BB) : ∀ l : List BB, pushB (l ++ [b]) n = if b.hi = n.lo ∧ b.c = n.c then l ++ [⟨b.lo, n.hi, b.v, b.c⟩] else l ++ [b, n]
  | [] => rfl
  | [a] => by simp only [List.cons_append, List.nil_append, pushB]; split <;> rfl
  | a :: d :: l => by
    show a :: pushB ((d :: l) ++ [b]) n = _
    rw [pushB_snoc b n (d :: l)]
    split <;> rfl
theorem pushB_len (n : BB) : ∀ l : List BB, (pushB l n).length ≤ l.length + 1
  | [] => by simp [pushB]
  | [r] => by simp only [pushB]; split <;> simp
  | r :: s :: rs => by simp only [pushB, List.length_cons]; have := pushB_len n (s :: rs); simp at this; omega
theorem pushB_mem {Q : Value → List Sp → Prop} {n : BB} (hn : Q n.v n.c) : ∀ {l : List BB}, (∀ b ∈ l, Q b.v b.c) → ∀ b ∈ pushB l n, Q b.v b.c
  | [], _, s, hs => by simp [pushB] at hs; subst hs; exact hn
  | [r], hb, s, hs => by
    have := hb r (by simp)
    simp only [pushB] at hs
    split at hs <;> simp at hs
    · subst hs; exact this
    · rcases hs with rfl | rfl
      · exact this
      · exact hn
  | r :: t :: rs, hb, s, hs => by
    simp only [pushB] at hs
    rcases List.mem_cons.1 hs with rfl | hs
    · exact hb s (by simp)
    · exact pushB_mem hn (fun s hs => hb s (List.mem_cons_of_mem _ hs)) s hs

theorem info_band : (Try.prog.info? 83).map (fun i => (i.zero, i.size, i.bytes)) = some (some (.agg #[.int .i64 0, .int .i64 0, .slice none 0 0]), 3, 40) := by kernel_rfl

theorem encB_tot (l : List BB) : (l.flatMap encB).length = l.length * 3 := flatMap_len encB 3 encB_len l
theorem encB_set (l : List BB) (b : BB) (u : Int) : ((l ++ [b]).flatMap encB).set (l.length * 3 + 1) (.int .i64 u) = (l ++ [(⟨b.lo, u, b.v, b.c⟩ : BB)]).flatMap encB := by
  rw [List.flatMap_append, List.flatMap_append, List.set_append_right _ _ (by rw [encB_tot]; omega), encB_tot]
  have : l.length * 3 + 1 - l.length * 3 = 1 := by omega
  rw [this]; rfl

set_option maxHeartbeats 4000000 in
set_option maxRecDepth 100000 in
theorem stack_any (v : Value) (l : List BB) (n : BB) (B : Nat) (w : World) (h : OwnAt w B 83 3 encB v l) (hB : B ≤ w.heap.size) (hl : l.length ≤ 500000)
    (hsp : ∀ b ∈ l, RowRd w 2 encS b.v b.c ∧ b.c.length ≤ 1000000) (hn : RowRd w 2 encS n.v n.c ∧ n.c.length ≤ 1000000) :
    Calls Try.prog 51 #[v, .agg #[.int .i64 n.lo, .int .i64 n.hi, n.v]] w fun e w' => ∃ v', e = .returned v' ∧ OwnAt w' B 83 3 encB v' (pushB l n) ∧ w.grownBy w' v.ownBlock := by
  obtain ⟨i0, hi, hz0, hz1, hz2⟩ := info_parts info_band
  have hone : n.v.oneCell' = true := by obtain ⟨p2, k2, e2, _⟩ := hn.1; rw [e2]; rfl
  rcases List.eq_nil_or_concat l with rfl | ⟨m, t, rfl⟩
  · obtain ⟨p, cap, hp⟩ := h.shape
    have hs0 : pushB [] n = [] ++ [n] := rfl
    rw [hs0]
    have hxs := h
    unfold OwnAt at hxs
    simp only [List.length_nil, List.flatMap_nil] at hxs hp
    subst hp
    have HX := Lib.hid hxs
    clear h hxs hsp hn
    go_enter Try.func51, Try.ntmps51
    go_wp2
    go_region
    all_goals go_wp2_with (first | (at_builtin; refine wpList_append_own _ rfl _ _ 78 rfl B 83 i0 _ 3 40 Try.underlying78 hi hz0 hz1 hz2 rfl (by decide) _ 0 [] rfl ((own_drewN (HX.out.alloc _) _).alloc _) ⟨w.heap.size + 1, 0, none⟩ 1 1 [.int .i64 n.lo, .int .i64 n.hi, n.v] rfl rfl ?c1 ?c2 ?c3 ?c4 ?c5 ?_))
    case c1 =>
      intro j u hu
      show ((w.alloc _).alloc (.cells #[.int .i64 n.lo, .int .i64 n.hi, n.v] 83)).cell? _ = _
      exact news_at (by simp) j u hu
    case c2 => intro u hu; simp at hu; rcases hu with rfl | rfl | rfl <;> first | rfl | exact hone
    case c3 => decide
    case c4 => omega
    case c5 => show B ≤ ((w.alloc _).alloc _).heap.size; simp; omega
    intro v' w1 hown1 hgrow _
    have HG := Lib.hid (gr_trans (gr_trans (gr_trans (World.grownBy_alloc w _ _) (World.grownBy_alloc _ _ _)) (gr_drewN _ 1 _)) hgrow)
    have HO := Lib.hid (OwnAt.snoc (l := []) (m := [n]) (enc := encB) (n := 1) rfl hown1)
    clear hown1 hgrow
    go_wp2
    go_ret
    exact ⟨_, rfl, HO.out, HG.out⟩
  · rw [List.concat_eq_append] at *
    obtain ⟨g, cap, rfl, hBg, hg, hlc⟩ := h.form (by simp)
    have hs := pushB_snoc t n m
    obtain ⟨hr1, hr2⟩ := hsp t (by simp)
    have HCC := Lib.hid (fun (w' : World) (hb : Below w.heap.size w w') => continues_any t n w' (hr1.below hb) (hn.1.below hb) hr2 hn.2)
    have hcell := fun (i : Nat) (u : Value) (hu : (encB t)[i]? = some u) => h.cell encB_len rfl (j := m.length) (by simp) (i := i) (u := u) (by rw [getElem!_pos _ _ (by simp), List.getElem_append_right (Nat.le_refl _)]; simpa using hu)
    have c0 := hcell 0 _ rfl
    have c1 := hcell 1 _ rfl
    have c2 := hcell 2 _ rfl
    have hxs := h
    unfold OwnAt at hxs
    have hlen : (m ++ [t]).length = m.length + 1 := by simp
    rw [hlen] at hxs hl hlc ⊢
    simp only [Nat.add_zero] at c0
    have f1 : w.frozen? ⟨g, m.length * 3 + 1, none⟩ = false := hxs.frozenAt _
    have n1 : g ≠ w.heap.size := by omega
    have HX := Lib.hid hxs
    have HE := Lib.hid (encB_set m t n.hi)
    have HT := Lib.hid (show ∃ p c, t.v = .slice p t.c.length c by obtain ⟨p3, k3, e3, _⟩ := hr1; exact ⟨p3, k3, e3⟩)
    clear h hxs hlen hcell hr2 hsp hn hr1
    generalize hk : m.length = k at *
    have hk0 : (0 : Int) ≤ (k : Int) := by omega
    have hk1 : (k : Int) < (k : Int) + 1 := by omega
    by_cases he : t.hi = n.lo ∧ t.c = n.c
    · rw [if_pos he] at hs
      rw [decide_eq_true he] at HCC
      rw [hs]
      have HH := Lib.hid he
      clear he hs
      go_enter Try.func51, Try.ntmps51
      go_wp2
      have q1 : (w.alloc (.cells #[.int .i64 n.lo, .int .i64 n.hi, n.v] 83)).cell? ⟨g, k * 3, none⟩ = some (.int .i64 t.lo) := by rw [World.cell?_alloc_past _ _ _ (by exact hg)]; exact c0
      have q2 : (w.alloc (.cells #[.int .i64 n.lo, .int .i64 n.hi, n.v] 83)).cell? ⟨g, k * 3 + 1, none⟩ = some (.int .i64 t.hi) := by rw [World.cell?_alloc_past _ _ _ (by exact hg)]; exact c1
      have q3 : (w.alloc (.cells #[.int .i64 n.lo, .int .i64 n.hi, n.v] 83)).cell? ⟨g, k * 3 + 2, none⟩ = some t.v := by rw [World.cell?_alloc_past _ _ _ (by exact hg)]; exact c2
      have q4 : (w.alloc (.cells #[.int .i64 n.lo, .int .i64 n.hi, n.v] 83)).cell? ⟨w.heap.size, 0, none⟩ = some (.int .i64 n.lo) := by simp
      have q5 : (w.alloc (.cells #[.int .i64 n.lo, .int .i64 n.hi, n.v] 83)).cell? ⟨w.heap.size, 1, none⟩ = some (.int .i64 n.hi) := by simp
      have q6 : (w.alloc (.cells #[.int .i64 n.lo, .int .i64 n.hi, n.v] 83)).cell? ⟨w.heap.size, 2, none⟩ = some n.v := by simp
      have q7 : Below w.heap.size w (w.alloc (.cells #[.int .i64 n.lo, .int .i64 n.hi, n.v] 83)) := (Below.refl _ _).alloc (Nat.le_refl _) _
      generalize w.alloc (.cells #[.int .i64 n.lo, .int .i64 n.hi, n.v] 83) = w1 at *
      go_region_held3 (fun w' => w'.cell? ⟨g, k * 3, none⟩ = some (.int .i64 t.lo) ∧ w'.cell? ⟨g, k * 3 + 1, none⟩ = some (.int .i64 t.hi) ∧ w'.cell? ⟨g, k * 3 + 2, none⟩ = some t.v ∧ w'.cell? ⟨w.heap.size, 0, none⟩ = some (.int .i64 n.lo) ∧ w'.cell? ⟨w.heap.size, 1, none⟩ = some (.int .i64 n.hi) ∧ w'.cell? ⟨w.heap.size, 2, none⟩ = some n.v ∧ Below w.heap.size w w') ((refine ⟨?_, ?_, ?_, ?_, ?_, ?_, ?_⟩ <;> (first | assumption | exact Below.drew (by assumption)))) (first
        | (go_at_call 65; (with_reducible refine Calls.mono (HCC.out (World.drew _) (Below.drew (by assumption))) ?_); rintro e w' ⟨rfl, hb⟩; have k0 := cell_keep hb (show World.cell? (World.drew w1) _ = some (Value.int .i64 t.lo) by assumption); have k1 := cell_keep hb (show World.cell? (World.drew w1) _ = some (Value.int .i64 t.hi) by assumption); have k2 := cell_keep hb (show World.cell? (World.drew w1) _ = some t.v by assumption); have k3 := cell_keep hb (show World.cell? (World.drew w1) _ = some (Value.int .i64 n.lo) by assumption); have k4 := cell_keep hb (show World.cell? (World.drew w1) _ = some (Value.int .i64 n.hi) by assumption); have k5 := cell_keep hb (show World.cell? (World.drew w1) _ = some n.v by assumption); have kb : Below w.heap.size w w' := below_step (Below.drew (by assumption)) hb; clear hb))
      have kf : w'.frozen? ⟨g, k * 3 + 1, none⟩ = false := (kb.frozen (p := ⟨g, k * 3 + 1, none⟩) hg).trans f1
      have KB := Lib.hid kb
      clear kb q1 q2 q3 q4 q5 q6 q7 HCC
      go_wp2
      go_ret
      obtain ⟨o1, o2⟩ := (HX.out.kept (gr_of_below KB.out) (Classical.em _)).stored (k * 3 + 1) (.int .i64 n.hi)
      refine ⟨_, rfl, ?_, gr_trans (gr_weak (gr_of_below KB.out)) o2⟩
      unfold OwnAt
      rw [List.length_append, hk, ← HE.out]
      exact o1
    · rw [if_neg he] at hs
      rw [decide_eq_false he] at HCC
      rw [hs]
      have HH := Lib.hid he
      obtain ⟨xs, hxe⟩ : ∃ xs, xs = (m ++ [t]).flatMap encB := ⟨_, rfl⟩
      rw [← hxe] at HX
      have HXE := Lib.hid hxe
      clear he hs HE hxe
      go_enter Try.func51, Try.ntmps51
      go_wp2
      have q1 : (w.alloc (.cells #[.int .i64 n.lo, .int .i64 n.hi, n.v] 83)).cell? ⟨g, k * 3, none⟩ = some (.int .i64 t.lo) := by rw [World.cell?_alloc_past _ _ _ (by exact hg)]; exact c0
      have q2 : (w.alloc (.cells #[.int .i64 n.lo, .int .i64 n.hi, n.v] 83)).cell? ⟨g, k * 3 + 1, none⟩ = some (.int .i64 t.hi) := by rw [World.cell?_alloc_past _ _ _ (by exact hg)]; exact c1
      have q3 : (w.alloc (.cells #[.int .i64 n.lo, .int .i64 n.hi, n.v] 83)).cell? ⟨g, k * 3 + 2, none⟩ = some t.v := by rw [World.cell?_alloc_past _ _ _ (by exact hg)]; exact c2
      have q4 : (w.alloc (.cells #[.int .i64 n.lo, .int .i64 n.hi, n.v] 83)).cell? ⟨w.heap.size, 0, none⟩ = some (.int .i64 n.lo) := by simp
      have q5 : (w.alloc (.cells #[.int .i64 n.lo, .int .i64 n.hi, n.v] 83)).cell? ⟨w.heap.size, 1, none⟩ = some (.int .i64 n.hi) := by simp
      have q6 : (w.alloc (.cells #[.int .i64 n.lo, .int .i64 n.hi, n.v] 83)).cell? ⟨w.heap.size, 2, none⟩ = some n.v := by simp
      have q7 : Below w.heap.size w (w.alloc (.cells #[.int .i64 n.lo, .int .i64 n.hi, n.v] 83)) := (Below.refl _ _).alloc (Nat.le_refl _) _
      generalize w.alloc (.cells #[.int .i64 n.lo, .int .i64 n.hi, n.v] 83) = w1 at *
      go_region_held3 (fun w' => w'.cell? ⟨g, k * 3, none⟩ = some (.int .i64 t.lo) ∧ w'.cell? ⟨g, k * 3 + 1, none⟩ = some (.int .i64 t.hi) ∧ w'.cell? ⟨g, k * 3 + 2, none⟩ = some t.v ∧ w'.cell? ⟨w.heap.size, 0, none⟩ = some (.int .i64 n.lo) ∧ w'.cell? ⟨w.heap.size, 1, none⟩ = some (.int .i64 n.hi) ∧ w'.cell? ⟨w.heap.size, 2, none⟩ = some n.v ∧ Below w.heap.size w w') ((refine ⟨?_, ?_, ?_, ?_, ?_, ?_, ?_⟩ <;> (first | assumption | exact Below.drew (by assumption)))) (first
        | (go_at_call 65; (with_reducible refine Calls.mono (HCC.out (World.drew _) (Below.drew (by assumption))) ?_); rintro e w' ⟨rfl, hb⟩; have k0 := cell_keep hb (show World.cell? (World.drew w1) _ = some (Value.int .i64 t.lo) by assumption); have k1 := cell_keep hb (show World.cell? (World.drew w1) _ = some (Value.int .i64 t.hi) by assumption); have k2 := cell_keep hb (show World.cell? (World.drew w1) _ = some t.v by assumption); have k3 := cell_keep hb (show World.cell? (World.drew w1) _ = some (Value.int .i64 n.lo) by assumption); have k4 := cell_keep hb (show World.cell? (World.drew w1) _ = some (Value.int .i64 n.hi) by assumption); have k5 := cell_keep hb (show World.cell? (World.drew w1) _ = some n.v by assumption); have kb : Below w.heap.size w w' := below_step (Below.drew (by assumption)) hb; clear hb))
      have KB := Lib.hid kb
      have kz := kb.size
      clear kb q1 q2 q3 q4 q5 q6 q7 HCC
      go_wp2_with (first | (at_builtin; refine wpList_append_own _ rfl _ _ 78 rfl B 83 i0 _ 3 40 Try.underlying78 hi hz0 hz1 hz2 rfl (by decide) _ (k + 1) _ rfl ((HX.out.kept (gr_of_below KB.out) (Classical.em _)).alloc _) ⟨w'.heap.size, 0, none⟩ 1 1 [.int .i64 n.lo, .int .i64 n.hi, n.v] rfl rfl ?c1 ?c2 ?c3 ?c4 ?c5 ?_))
      case c1 => exact news_at rfl
      case c2 => intro u hu; simp at hu; rcases hu with rfl | rfl | rfl <;> first | rfl | exact hone
      case c3 => unfold maxLen; omega
      case c4 => omega
      case c5 => simp; omega
      intro v' w2 hown1 hgrow _
      have HG := Lib.hid (gr_trans (gr_trans (gr_weak (gr_of_below KB.out)) (World.grownBy_alloc _ _ _)) hgrow)
      have HO := Lib.hid (OwnAt.snoc (l := m ++ [t]) (m := [n]) (enc := encB) (n := 1) rfl (by rw [List.length_append, hk, ← HXE.out]; exact hown1))
      clear hown1 hgrow
      go_wp2
      go_ret
      exact ⟨_, rfl, by have := HO.out; rwa [List.append_assoc] at this, HG.out⟩
end Go.Proofs.Ytdpnkbbphfcngab
