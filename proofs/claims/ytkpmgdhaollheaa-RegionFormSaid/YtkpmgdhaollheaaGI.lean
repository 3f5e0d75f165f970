/- Bands in memory. -/
import Derived.Test.YtkpmgdhaollheaaGH
import Derived.Test.YtkpmgdhaollheaaIM
import Derived.Deep.RegionHeld3
namespace Go.Proofs.Ytkpmgdhaollheaa
open Go.RowKit Go.Shelf


def pushB : List BB → BB → List BB
  | [], n => [n]
  | [b], n => if b.hi = n.lo ∧ b.c = n.c then [⟨b.lo, n.hi, b.v, b.c⟩] else [b, n]
  | b :: d :: l, n => b :: pushB (d :: l) n

theorem band_pushB (n : BB) : ∀ l : List BB, (pushB l n).map BB.band = push (l.map BB.band) n.band
  | [] => rfl
  | [b] => by
    simp only [pushB, List.map_cons, List.map_nil, push, BB.band]
    by_cases h : b.hi = n.lo ∧ b.c = n.c
    · rw [if_pos h, if_pos h]; rfl
    · rw [if_neg h, if_neg h]; rfl
  | b :: d :: l => by
    show _ :: (pushB (d :: l) n).map BB.band = _
    rw [band_pushB n (d :: l)]
    rfl
theorem pushB_snoc (b n : BB) : ∀ l : List BB, pushB (l ++ [b]) n = if b.hi = n.lo ∧ b.c = n.c then l ++ [⟨b.lo, n.hi, b.v, b.c⟩] else l ++ [b, n]
  | [] => rfl
  | [a] => by simp only [List.cons_append, List.nil_append, pushB]; split <;> rfl
  | a :: d :: l => by
    show a :: pushB ((d :: l) ++ [b]) n = _
    rw [pushB_snoc b n (d :: l)]
    split <;> rfl
theorem pushB_len (n : BB) : ∀ l : List BB, (pushB l n).length ≤ l.length + 1
  | [] => by simp [pushB]
  | [r] => by simp only [pushB]; split <;> simp
  | r :: s :: rs => by simp only [pushB, List.length_cons]; have := pushB_len n (s :: rs); simp at this; omega
theorem pushB_mem {Q : Value → List Sp → Prop} {n : BB} (hn : Q n.v n.c) : ∀ {l : List BB}, (∀ b ∈ l, Q b.v b.c) → ∀ b ∈ pushB l n, Q b.v b.c
  | [], _, s, hs => by simp [pushB] at hs; subst hs; exact hn
  | [r], hb, s, hs => by
    have := hb r (by simp)
    simp only [pushB] at hs
    split at hs <;> simp at hs
    · subst hs; exact this
    · rcases hs with rfl | rfl
      · exact this
      · exact hn
  | r :: t :: rs, hb, s, hs => by
    simp only [pushB] at hs
    rcases List.mem_cons.1 hs with rfl | hs
    · exact hb s (by simp)
    · exact pushB_mem hn (fun s hs => hb s (List.mem_cons_of_mem _ hs)) s hs

theorem info_band : (Try.prog.info? 99).map (fun i => (i.zero, i.size, i.bytes)) = some (some (.agg #[.int .i64 0, .int .i64 0, .slice none 0 0]), 3, 40) := by kernel_rfl

theorem encB_tot (l : List BB) : (l.flatMap encB).length = l.length * 3 := flatMap_len encB 3 encB_len l
theorem encB_set (l : List BB) (b : BB) (u : Int) : ((l ++ [b]).flatMap encB).set (l.length * 3 + 1) (.int .i64 u) = (l ++ [(⟨b.lo, u, b.v, b.c⟩ : BB)]).flatMap encB := by
  rw [List.flatMap_append, List.flatMap_append, List.set_append_right _ _ (by rw [encB_tot]; omega), encB_tot]
  have : l.length * 3 + 1 - l.length * 3 = 1 := by omega
  rw [this]; rfl

/-- settled, of bands in memory. -/
def settledB (L : List BB) : List BB := match L.getLast? with
  | some n => pushB L.dropLast n
  | none => []
theorem settledB_snoc (L : List BB) (n : BB) : settledB (L ++ [n]) = pushB L n := by simp [settledB]
theorem settledB_band (L : List BB) : (settledB L).map BB.band = settledL (L.map BB.band) := by
  rcases List.eq_nil_or_concat L with rfl | ⟨m, n, rfl⟩
  · rfl
  · rw [List.concat_eq_append, settledB_snoc, band_pushB, List.map_append, List.map_singleton, settled_snoc]

set_option maxHeartbeats 4000000 in
set_option maxRecDepth 100000 in
theorem settled_any (v : Value) (L : List BB) (B : Nat) (w : World) (h : OwnAt w B 99 3 encB v L) (hl : L.length ≤ 200000000000)
    (hsp : ∀ b ∈ L, RowRd w 2 encS b.v b.c ∧ b.c.length ≤ 200000000000) :
    Calls Try.prog 91 #[v] w fun e w' => ∃ v', e = .returned v' ∧ OwnAt w' B 99 3 encB v' (settledB L) ∧ w.grownBy w' v.ownBlock ∧ (L = [] → v' = v) := by
  by_cases hshort : L.length ≤ 1
  · have hsame : settledB L = L := by
      match L, hshort with
      | [], _ => rfl
      | [b], _ => rfl
      | _ :: _ :: _, h => simp at h
    rw [hsame]
    have HO := Lib.hid h
    obtain ⟨p, cap, rfl⟩ := h.shape
    generalize hn : L.length = n at *
    have hlt : (n : Int) - 1 < 1 := by omega
    have hb : decide ((n : Int) - 1 < 1) = true := decide_eq_true hlt
    clear h hsp
    go_enter Try.func91, Try.ntmps91
    go_wp2
    go_quiet (fail)
    go_wp2
    go_ret
    exact ⟨_, rfl, own_drewN HO.out nq, gr_drewN _ nq _, fun _ => rfl⟩
  · obtain ⟨M, a, n, rfl⟩ : ∃ M a n, L = M ++ [a, n] := by
      rcases List.eq_nil_or_concat L with rfl | ⟨L1, n, rfl⟩
      · simp at hshort
      · rcases List.eq_nil_or_concat L1 with rfl | ⟨M, a, rfl⟩
        · simp at hshort
        · exact ⟨M, a, n, by simp⟩
    have hset : settledB (M ++ [a, n]) = if a.hi = n.lo ∧ a.c = n.c then M ++ [⟨a.lo, n.hi, a.v, a.c⟩] else M ++ [a, n] := by
      rw [show M ++ [a, n] = (M ++ [a]) ++ [n] by simp, settledB_snoc, pushB_snoc]
      simp
    obtain ⟨g, cap, rfl, hBg, hg, hlc⟩ := h.form (by simp)
    obtain ⟨hr1, hr2⟩ := hsp a (by simp)
    obtain ⟨hn1, hn2⟩ := hsp n (by simp)
    have HCC := Lib.hid (fun (w' : World) (hb : Below w.heap.size w w') => continues_any a n w' (hr1.below hb) (hn1.below hb) hr2 hn2)
    have hca := fun (i : Nat) (u : Value) (hu : (encB a)[i]? = some u) => h.cell encB_len rfl (j := M.length) (by simp) (i := i) (u := u) (by rw [getElem!_pos _ _ (by simp), List.getElem_append_right (Nat.le_refl _)]; simpa using hu)
    have hcn := fun (i : Nat) (u : Value) (hu : (encB n)[i]? = some u) => h.cell encB_len rfl (j := M.length + 1) (by simp) (i := i) (u := u) (by rw [getElem!_pos _ _ (by simp), List.getElem_append_right (by omega)]; simpa using hu)
    have a0 := hca 0 _ rfl
    have a1 := hca 1 _ rfl
    have a2 := hca 2 _ rfl
    have b0 := hcn 0 _ rfl
    have b1 := hcn 1 _ rfl
    have b2 := hcn 2 _ rfl
    have hlen : (M ++ [a, n]).length = M.length + 2 := by simp
    rw [hlen] at hl hlc ⊢
    simp only [Nat.add_zero] at a0 b0
    have hxs := h
    unfold OwnAt at hxs
    rw [hlen] at hxs
    have f1 : w.frozen? ⟨g, M.length * 3 + 1, none⟩ = false := hxs.frozenAt _
    have HX := Lib.hid hxs
    have HT := Lib.hid (show ∃ p c, a.v = .slice p a.c.length c by obtain ⟨p3, k3, e3, _⟩ := hr1; exact ⟨p3, k3, e3⟩)
    have HEs := Lib.hid (show ((M ++ [a, n]).flatMap encB).set (M.length * 3 + 1) (.int .i64 n.hi) = (M ++ [(⟨a.lo, n.hi, a.v, a.c⟩ : BB), n]).flatMap encB by
      rw [List.flatMap_append, List.flatMap_append, List.set_append_right _ _ (by rw [encB_tot]; omega), encB_tot, show M.length * 3 + 1 - M.length * 3 = 1 by omega]
      rfl)
    have HTk := Lib.hid (show ((M ++ [(⟨a.lo, n.hi, a.v, a.c⟩ : BB), n]).flatMap encB).take ((M.length + 1) * 3) = (M ++ [(⟨a.lo, n.hi, a.v, a.c⟩ : BB)]).flatMap encB by
      rw [flatMap_take encB 3 encB_len]
      congr 1
      rw [show M ++ [(⟨a.lo, n.hi, a.v, a.c⟩ : BB), n] = (M ++ [(⟨a.lo, n.hi, a.v, a.c⟩ : BB)]) ++ [n] by simp, List.take_left' (by simp)])
    clear h hxs hlen hca hcn hr2 hn2 hsp hr1 hn1 hshort
    generalize hk : M.length = k at *
    have hk0 : (0 : Int) ≤ (k : Int) := by omega
    have hkl : (k : Int) ≤ 200000000000 := by omega
    obtain ⟨t, ht⟩ : ∃ t, t = k + 1 := ⟨_, rfl⟩
    have E1 : (k : Int) + 2 - 1 = (t : Int) := by omega
    have E2 : (t : Int) - 1 = (k : Int) := by omega
    have hdc : decide ((t : Int) < 1) = false := decide_eq_false (by omega)
    have hkc : (t : Int) ≤ (cap : Int) := by omega
    have ht0 : (0 : Int) ≤ (t : Int) := by omega
    have htl : (t : Int) < (k : Int) + 2 := by omega
    have hkl2 : (k : Int) < (k : Int) + 2 := by omega
    have hwk : IntKind.i64.wrap (k : Int) = (k : Int) := wrap_small k (by omega)
    rw [← ht] at b0 b1 b2 HTk
    have HT1 := Lib.hid ht
    clear ht
    by_cases he : a.hi = n.lo ∧ a.c = n.c
    · rw [if_pos he] at hset
      rw [decide_eq_true he] at HCC
      rw [hset]
      have HH := Lib.hid he
      clear he hset
      go_enter Try.func91, Try.ntmps91
      go_wp2
      have q7 : Below w.heap.size w w := Below.refl _ _
      go_region_held3 (fun w' => w'.cell? ⟨g, k * 3, none⟩ = some (.int .i64 a.lo) ∧ w'.cell? ⟨g, k * 3 + 1, none⟩ = some (.int .i64 a.hi) ∧ w'.cell? ⟨g, k * 3 + 2, none⟩ = some a.v ∧ w'.cell? ⟨g, t * 3, none⟩ = some (.int .i64 n.lo) ∧ w'.cell? ⟨g, t * 3 + 1, none⟩ = some (.int .i64 n.hi) ∧ w'.cell? ⟨g, t * 3 + 2, none⟩ = some n.v ∧ Below w.heap.size w w') ((refine ⟨?_, ?_, ?_, ?_, ?_, ?_, ?_⟩ <;> (first | assumption | exact Below.drew (by assumption)))) (first
        | (go_at_call 81; (with_reducible refine Calls.mono (HCC.out (World.drew _) (Below.drew (by assumption))) ?_); rintro e w' ⟨rfl, hb⟩; have k0 := cell_keep hb (show World.cell? (World.drew w) _ = some (Value.int .i64 a.lo) by assumption); have k1 := cell_keep hb (show World.cell? (World.drew w) _ = some (Value.int .i64 a.hi) by assumption); have k2 := cell_keep hb (show World.cell? (World.drew w) _ = some a.v by assumption); have k3 := cell_keep hb (show World.cell? (World.drew w) _ = some (Value.int .i64 n.lo) by assumption); have k4 := cell_keep hb (show World.cell? (World.drew w) _ = some (Value.int .i64 n.hi) by assumption); have k5 := cell_keep hb (show World.cell? (World.drew w) _ = some n.v by assumption); have kb : Below w.heap.size w w' := below_step (Below.drew (by assumption)) hb; clear hb))
      have kf : w'.frozen? ⟨g, k * 3 + 1, none⟩ = false := (kb.frozen (p := ⟨g, k * 3 + 1, none⟩) hg).trans f1
      have KB := Lib.hid kb
      clear kb q7 HCC
      go_wp2
      go_ret
      obtain ⟨o1, o2⟩ := (HX.out.kept (gr_of_below KB.out) (Classical.em _)).stored (k * 3 + 1) (.int .i64 n.hi)
      rw [HEs.out] at o1
      refine ⟨_, rfl, ?_, gr_trans (gr_weak (gr_of_below KB.out)) o2, fun e => by simp at e⟩
      exact own_cut (m := t) o1 (by have := HT1.out; omega) (by have := HT1.out; simp; omega) encB_len (HTk.out)
    · rw [if_neg he] at hset
      rw [decide_eq_false he] at HCC
      rw [hset]
      have HH := Lib.hid he
      clear he hset
      go_enter Try.func91, Try.ntmps91
      go_wp2
      have q7 : Below w.heap.size w w := Below.refl _ _
      go_region_held3 (fun w' => w'.cell? ⟨g, k * 3, none⟩ = some (.int .i64 a.lo) ∧ w'.cell? ⟨g, k * 3 + 1, none⟩ = some (.int .i64 a.hi) ∧ w'.cell? ⟨g, k * 3 + 2, none⟩ = some a.v ∧ w'.cell? ⟨g, t * 3, none⟩ = some (.int .i64 n.lo) ∧ w'.cell? ⟨g, t * 3 + 1, none⟩ = some (.int .i64 n.hi) ∧ w'.cell? ⟨g, t * 3 + 2, none⟩ = some n.v ∧ Below w.heap.size w w') ((refine ⟨?_, ?_, ?_, ?_, ?_, ?_, ?_⟩ <;> (first | assumption | exact Below.drew (by assumption)))) (first
        | (go_at_call 81; (with_reducible refine Calls.mono (HCC.out (World.drew _) (Below.drew (by assumption))) ?_); rintro e w' ⟨rfl, hb⟩; have k0 := cell_keep hb (show World.cell? (World.drew w) _ = some (Value.int .i64 a.lo) by assumption); have k1 := cell_keep hb (show World.cell? (World.drew w) _ = some (Value.int .i64 a.hi) by assumption); have k2 := cell_keep hb (show World.cell? (World.drew w) _ = some a.v by assumption); have k3 := cell_keep hb (show World.cell? (World.drew w) _ = some (Value.int .i64 n.lo) by assumption); have k4 := cell_keep hb (show World.cell? (World.drew w) _ = some (Value.int .i64 n.hi) by assumption); have k5 := cell_keep hb (show World.cell? (World.drew w) _ = some n.v by assumption); have kb : Below w.heap.size w w' := below_step (Below.drew (by assumption)) hb; clear hb))
      have kf : w'.frozen? ⟨g, k * 3 + 1, none⟩ = false := (kb.frozen (p := ⟨g, k * 3 + 1, none⟩) hg).trans f1
      have KB := Lib.hid kb
      clear kb q7 HCC
      go_wp2
      go_ret
      refine ⟨_, rfl, ?_, gr_weak (gr_of_below KB.out), fun e => by simp at e⟩
      have := HX.out.kept (gr_of_below KB.out) (Classical.em _)
      unfold OwnAt
      rw [List.length_append, hk]
      exact this
end Go.Proofs.Ytkpmgdhaollheaa
