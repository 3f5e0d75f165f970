/- spansOf: the spans of a row. -/
import Derived.Test.YtdpnkbbphfcngabGF
import Derived.Lib.OwnKind
import Derived.OneCell
namespace Go.Proofs.Ytdpnkbbphfcngab
open Go.RowKit

/-- A function value that tells which sets are kept. -/
structure KeepAt (k : Int → Bool) (g : Nat) : Prop where
  enter : ∀ args w, (callFunc g args).run Try.prog w = .ok (.enter g args) w
  says : ∀ m w, Calls Try.prog g #[.int .i64 m] w fun e w' => e = .returned (.bool (k m)) ∧ w = w'

/-- A row of another kind than the one that grows. -/
theorem OwnAt.other {α : Type} {w w' : World} {B : Nat} {e : TypeId} {k : Nat} {enc : α → List Value} {v : Value} {l : List α} (h : OwnAt w B e k enc v l) {e' : TypeId} (hte : e ≠ e') {B' k' n : Nat} {u : Value} {xs : List Value} (hg : w.grownBy w' u.ownBlock) (ho : w.ownsRow B' e' k' u n xs) : OwnAt w' B e k enc v l := by
  refine World.ownsRow.kept h hg ?_
  cases hv : v.ownBlock with
  | none => exact .inl rfl
  | some g =>
    refine .inr fun e1 => ?_
    obtain ⟨c, fz, hc⟩ := Lib.ownsRow_kind ho g e1.symm
    obtain ⟨c2, fz2, hc2⟩ := Lib.ownsRow_kind h g hv
    rw [hc] at hc2
    simp at hc2
    exact hte hc2.2.1.symm
theorem OwnAt.alloc {α : Type} {w : World} {B : Nat} {e : TypeId} {k : Nat} {enc : α → List Value} {v : Value} {l : List α} (h : OwnAt w B e k enc v l) (o : Obj) : OwnAt (w.alloc o) B e k enc v l := World.ownsRow.alloc h o
/-- What a row of one's own takes turns nothing that was there before. -/
theorem gr_own {w w1 w2 : World} {row : Option Nat} {e : TypeId} {k n : Nat} {v : Value} {xs : List Value} (h0 : w.grownBy w1 row) (hg : w1.grownBy w2 v.ownBlock) (ho : w1.ownsRow w.heap.size e k v n xs) : w.grownBy w2 row :=
  ⟨hg.os.trans h0.os, hg.tape.trans h0.tape, hg.output.trans h0.output, Nat.le_trans h0.size hg.size, fun k hk hr =>
    (hg.block k (Nat.lt_of_lt_of_le hk h0.size) (fun e => by have := ownsRow_ge ho k e.symm; omega)).trans (h0.block k hk hr)⟩
theorem gr_alloc {w w1 : World} {row : Option Nat} (h : w.grownBy w1 row) (o : Obj) : w.grownBy (w1.alloc o) row := gr_trans h (World.grownBy_alloc _ _ _)
theorem gr_drew {w w1 : World} {row : Option Nat} (h : w.grownBy w1 row) : w.grownBy w1.drew row := ⟨h.os, h.tape, h.output, h.size, h.block⟩

def stAt (K : Int → Bool) (n : Nat) (y : Int) (E : List Ed) (k : Nat) : SpN := spansStN K n y (E.take k)
theorem stAt_succ {K : Int → Bool} {n : Nat} {y : Int} {E : List Ed} {k : Nat} (h : k < E.length) : stAt K n y E (k + 1) = spStepN K y (stAt K n y E k) E[k]! := by
  unfold stAt spansStN
  rw [List.take_succ_eq_append_getElem h, List.foldl_append, getElem!_pos E k h]
  rfl

def EdOk (n : Nat) (E : List Ed) : Prop := ∀ e ∈ E, (0 ≤ e.list ∧ e.list < (n : Int)) ∧ (e.more = 1 ∨ e.more = -1)

theorem stAt_bounds {K : Int → Bool} {n : Nat} {y : Int} {E : List Ed} (hE : EdOk n E) : ∀ k, k ≤ E.length → (stAt K n y E k).c.length = n ∧ (∀ j, j < n → -(k : Int) ≤ (stAt K n y E k).c[j]! ∧ (stAt K n y E k).c[j]! ≤ k) ∧ (stAt K n y E k).sp.length ≤ k
  | 0, _ => by
    refine ⟨by simp [stAt, spansStN], fun j hj => ?_, by simp [stAt, spansStN]⟩
    have : (stAt K n y E 0).c = List.replicate n 0 := rfl
    rw [this, getElem!_pos _ _ (by simpa using hj)]
    simp
  | k + 1, hk => by
    obtain ⟨i1, i2, i3⟩ := stAt_bounds (K := K) (y := y) hE k (by omega)
    rw [stAt_succ (by omega)]
    generalize stAt K n y E k = s at *
    have hm := hE E[k]! (by rw [getElem!_pos E k (by omega)]; exact List.getElem_mem _)
    generalize E[k]! = e at *
    unfold spStepN
    split
    · refine ⟨i1, fun j hj => ?_, by omega⟩
      have := i2 j hj
      omega
    · have hp := pushS_len (s.x, e.x) s.sp
      refine ⟨by rw [bump_len]; exact i1, fun j hj => ?_, ?_⟩
      · show _ ≤ (bump _ _ _)[j]! ∧ (bump _ _ _)[j]! ≤ _
        rw [bump_get (by rw [i1]; exact hj)]
        have h1 := i2 j hj
        split
        · rename_i hj2
          rw [← hj2]
          omega
        · omega
      · show (if _ then _ else _ : List Sp).length ≤ _
        split <;> omega

/-- What the loop keeps. -/
structure SpAt (w wr : World) (Bc : Nat) (vc u : Value) (s : SpN) : Prop where
  own : OwnAt wr w.heap.size 97 2 encS u s.sp
  cov : OwnAt wr Bc 3 1 encI vc s.c
  gr : w.grownBy wr vc.ownBlock

theorem SpAt.alloc {w wr : World} {Bc : Nat} {vc u : Value} {s : SpN} (h : SpAt w wr Bc vc u s) (o : Obj) : SpAt w (wr.alloc o) Bc vc u s :=
  ⟨h.own.alloc o, h.cov.alloc o, gr_alloc h.gr o⟩
theorem SpAt.drew {w wr : World} {Bc : Nat} {vc u : Value} {s : SpN} (h : SpAt w wr Bc vc u s) : SpAt w wr.drew Bc vc u s :=
  ⟨World.ownsRow.drew h.own, World.ownsRow.drew h.cov, gr_drew h.gr⟩
/-- Behind join. -/
theorem SpAt.join {w wr w1 : World} {Bc : Nat} {vc u u' : Value} {s : SpN} {l : List Sp} (h : SpAt w wr Bc vc u s) (h1 : OwnAt w1 w.heap.size 97 2 encS u' l) (hg : wr.grownBy w1 u.ownBlock) : SpAt w w1 Bc vc u' ⟨l, s.c, s.x⟩ :=
  ⟨h1, h.cov.other (by decide) hg h.own, gr_own h.gr hg h.own⟩
/-- A count, turned. -/
theorem SpAt.set {w wr : World} {Bc gc n cap : Nat} {u : Value} {s : SpN} (h : SpAt w wr Bc (.slice (some ⟨gc, 0, none⟩) n cap) u s) (hgc : gc < w.heap.size) (hn : s.c.length = n) (j : Nat) (z x : Int) : SpAt w (wr.setCell ⟨gc, j, none⟩ (.int .i64 z)) Bc (.slice (some ⟨gc, 0, none⟩) n cap) u ⟨s.sp, s.c.set j z, x⟩ := by
  subst hn
  obtain ⟨o1, o2⟩ := World.ownsRow.stored h.cov j (.int .i64 z)
  refine ⟨ownsRow_setCell_other h.own (fun e => ?_) _, ?_, gr_trans h.gr o2⟩
  · have h2 : w.heap.size ≤ gc := ownsRow_ge h.own _ e
    omega
  · unfold OwnAt
    rw [flat_encI, List.length_set, List.map_set, ← flat_encI]
    exact o1
theorem SpAt.cellC {w wr : World} {Bc gc n cap : Nat} {u : Value} {s : SpN} (h : SpAt w wr Bc (.slice (some ⟨gc, 0, none⟩) n cap) u s) (hn : s.c.length = n) {j : Nat} (hj : j < n) : wr.cell? ⟨gc, j, none⟩ = some (.int .i64 s.c[j]!) ∧ wr.frozen? ⟨gc, j, none⟩ = false := by
  have h1 := h.cov.cell (fun _ => rfl) hn.symm (j := j) (by omega) (i := 0) rfl
  simp only [Nat.mul_one, Nat.add_zero] at h1
  subst hn
  exact ⟨h1, World.ownsRow.frozenAt h.cov j⟩

/-- The box of a round behind join. -/
theorem box_kept {w wr w1 : World} {u : Value} {l : List Sp} {o : Obj} {cs : Array Value} {t : TypeId} (he : o = .cells cs t) (ho : OwnAt wr w.heap.size 97 2 encS u l) (hg : (wr.alloc o).grownBy w1 u.ownBlock) {i : Nat} {z : Value} (hz : cs[i]? = some z) : w1.cell? ⟨wr.heap.size, i, none⟩ = some z := by
  subst he
  have hne : some wr.heap.size ≠ u.ownBlock := by
    intro e
    have := (World.ownsRow.lt ho _ e.symm).2
    omega
  refine hg.cell ?_ hne
  simp [hz]

set_option maxHeartbeats 8000000 in
set_option maxRecDepth 100000 in
theorem spansOf_any (K : Int → Bool) (g : Nat) (hK : KeepAt K g) (v vc : Value) (E : List Ed) (n : Nat) (y : Int) (B Bc : Nat) (w : World) (h : OwnAt w B 75 5 encE v E) (hc : OwnAt w Bc 3 1 encI vc (List.replicate n 0)) (hn0 : 0 < n) (hn62 : n ≤ 62) (hE : EdOk n E) (hl : E.length ≤ 240000) :
    Calls Try.prog 52 #[v, .int .i64 y, vc, .func (.func g) #[] #[]] w fun e w' => ∃ v', e = .returned v' ∧ OwnAt w' w.heap.size 97 2 encS v' (spansN K n E y) ∧ OwnAt w' Bc 3 1 encI vc (spansStN K n y E).c ∧ w.grownBy w' vc.ownBlock := by
  have eg := hK.enter
  have hsay := hK.says
  obtain ⟨p, cap, rfl⟩ := h.shape
  obtain ⟨gc, capc, rfl, _, hgc, hcc⟩ := hc.form (by simpa using hn0)
  rw [List.length_replicate] at hcc
  have hcl : (List.replicate n (0 : Int)).length = n := List.length_replicate
  rw [hcl] at hc ⊢
  have HE := Lib.hid h
  have HEd := Lib.hid hE
  have HBd := Lib.hid (stAt_bounds (K := K) (y := y) hE)
  have HCov := Lib.hid hc
  obtain ⟨m, hm⟩ : ∃ m, m = E.length := ⟨_, rfl⟩
  rw [← hm]
  have N := Lib.hid hm
  have hm' : (m : Int) ≤ 240000 := by omega
  have hn' : (n : Int) ≤ 62 := by omega
  have hfin := Lib.hid (show stAt K n y E m = spansStN K n y E by unfold stAt; rw [List.take_of_length_le (by omega)])
  clear h hm hE hK hc hcl
  go_enter Try.func52, Try.ntmps52
  go_wp2
  go_loopw [9, 10, 11, 16] (fun u x st i wr => ∃ k : Nat, k ≤ m ∧ i = .int .i64 k ∧ x = .int .i64 (stAt K n y E k).x ∧ st = .int .i64 (maskC (stAt K n y E k).c) ∧ SpAt w wr Bc (.slice (some ⟨gc, 0, none⟩) n capc) u (stAt K n y E k)) (fun _ _ _ i _ => m - (intOf i).toNat)
  case atStart => exact ⟨0, Nat.zero_le _, rfl, rfl, by rw [mask_zero (c := (stAt K n y E 0).c) fun v hv => (List.mem_replicate.1 hv).2], ⟨OwnAt.nil .., HCov.out, World.grownBy.refl _ _⟩⟩
  case round =>
    obtain ⟨k, hk, rfl, rfl, rfl, hst⟩ := hrel
    by_cases hkm : k < m
    · have hkE : k < E.length := by rw [← N.out]; exact hkm
      have hE := HE.out.other (by decide) hst.gr HCov.out
      obtain ⟨g1, cap', e1, _, hg, _⟩ := hE.form (by omega)
      cases e1
      have d0 := hE.cell encE_len rfl hkE (i := 0) rfl
      have d1 := hE.cell encE_len rfl hkE (i := 1) rfl
      have d2 := hE.cell encE_len rfl hkE (i := 2) rfl
      have d3 := hE.cell encE_len rfl hkE (i := 3) rfl
      have d4 := hE.cell encE_len rfl hkE (i := 4) rfl
      have hkm' : (k : Int) < (m : Int) := by omega
      obtain ⟨b1, b2, b3⟩ := HBd.out k (by omega)
      have hmem := HEd.out E[k]! (by rw [getElem!_pos E k hkE]; exact List.getElem_mem _)
      have hsucc := stAt_succ (K := K) (n := n) (y := y) hkE
      have hws := hst.gr.size
      have HST := Lib.hid hst
      clear hE
      generalize E[k]! = r at *
      generalize stAt K n y E k = s at *
      obtain ⟨⟨m1, m2⟩, m3⟩ := hmem
      obtain ⟨jj, hjj⟩ : ∃ jj : Nat, r.list = jj := ⟨r.list.toNat, by omega⟩
      have hjn : jj < n := by omega
      have hjn' : (jj : Int) < (n : Int) := by omega
      have hbj := b2 jj hjn
      obtain ⟨cv, cf⟩ := hst.cellC b1 hjn
      have b6 : s.sp.length ≤ 300000 := by omega
      rw [hjj] at d3
      simp only [Nat.add_zero] at d0
      have n1 : g1 ≠ wr.heap.size := by omega
      have n2 : gc ≠ wr.heap.size := by omega
      have n3 : gc < wr.heap.size := by omega
      unfold spStepN at hsucc
      rw [hjj] at hsucc
      have HS := Lib.hid hsucc
      have MC := Lib.hid (mask_clear (c := s.c) (j := jj) (by omega) (by omega))
      have MS := Lib.hid (fun v hv => mask_set (c := s.c) (j := jj) (v := v) (by omega) (by omega) hv)
      have MK := Lib.hid (fun v hv => mask_keep (c := s.c) (j := jj) (v := v) hv)
      have hmb := maskC_le (c := s.c) (by omega)
      have hpw : (1 : Int) * 2 ^ jj = ((2 ^ jj : Nat) : Int) := by simp
      have hpb := two62 (show jj < 62 by omega)
      clear hsucc hst b2
      generalize hcj : s.c[jj]! = cj at *
      by_cases a1 : y < r.lo
      · have HS2 := Lib.hid (show stAt K n y E (k + 1) = s by rw [HS.out, if_pos (.inl a1)])
        go_wp2
        go_roundw
        case rel => exact ⟨k + 1, by omega, by simp, by rw [HS2.out], by rw [HS2.out], by rw [HS2.out]; exact HST.out.alloc _⟩
        case measure => simp [intOf]; omega
      · by_cases a2 : r.hi ≤ y
        · have HS2 := Lib.hid (show stAt K n y E (k + 1) = s by rw [HS.out, if_pos (.inr a2)])
          go_wp2
          go_roundw
          case rel => exact ⟨k + 1, by omega, by simp, by rw [HS2.out], by rw [HS2.out], by rw [HS2.out]; exact HST.out.alloc _⟩
          case measure => simp [intOf]; omega
        · have HS2 := Lib.hid HS.out
          rw [if_neg (by omega)] at HS2
          have hsay2 := fun w => hsay (maskC s.c) w
          have HST2 := Lib.hid (HST.out.alloc (.cells #[.int .i64 r.x, .int .i64 r.lo, .int .i64 r.hi, .int .i64 jj, .int .i64 r.more] 75))
          obtain ⟨cv2, cf2⟩ := HST2.out.cellC b1 hjn
          rw [hcj] at cv2
          have hw64 : wrap64 ((2 : Int) ^ jj) = ((2 ^ jj : Nat) : Int) := by
            rw [show ((2 : Int) ^ jj) = ((2 ^ jj : Nat) : Int) by simp]
            generalize 2 ^ jj = q at hpb
            exact wrap_in (by omega) (by omega)
          have HP := Lib.hid (show 0 < cj + r.more → bits .or .i64 (bits .andNot .i64 (maskC s.c) (wrap64 (2 ^ jj))) (wrap64 (2 ^ jj)) = maskC (s.c.set jj (cj + r.more)) from fun h => by rw [hw64, MC.out, MS.out _ h])
          have HN := Lib.hid (show ¬ 0 < cj + r.more → bits .andNot .i64 (maskC s.c) (wrap64 (2 ^ jj)) = maskC (s.c.set jj (cj + r.more)) from fun h => by rw [hw64, MC.out, MK.out _ h])
          clear hw64 hpw hpb MC MS MK hmb HS
          by_cases p1 : s.x < r.x
          · by_cases p2 : maskC s.c = 0
            · have hsp : (if s.x < r.x ∧ maskC s.c ≠ 0 ∧ K (maskC s.c) = true then pushS s.sp (s.x, r.x) else s.sp) = s.sp := if_neg fun h => h.2.1 p2
              rw [hsp] at HS2
              rw [p2] at HP HN
              by_cases hpos : 0 < cj + r.more
              · have HS3 := Lib.hid (show stAt K n y E (k + 1) = ⟨s.sp, s.c.set jj (cj + r.more), r.x⟩ by rw [HS2.out]; simp [bump, hcj])
                have HM := Lib.hid (HP.out hpos)
                go_wp2
                go_region
                all_goals go_wp2
                refine ⟨⟨k + 1, by omega, by simp, by rw [HS3.out], by rw [HS3.out]; exact congrArg _ HM.out, by rw [HS3.out]; exact ((HST.out.set hgc b1 jj _ _).alloc _).drew⟩, ?_⟩
                simp [intOf]; omega
              · have HS3 := Lib.hid (show stAt K n y E (k + 1) = ⟨s.sp, s.c.set jj (cj + r.more), r.x⟩ by rw [HS2.out]; simp [bump, hcj])
                have HM := Lib.hid (HN.out hpos)
                go_wp2
                go_region
                all_goals go_wp2
                refine ⟨⟨k + 1, by omega, by simp, by rw [HS3.out], by rw [HS3.out]; exact congrArg _ HM.out, by rw [HS3.out]; exact ((HST.out.set hgc b1 jj _ _).alloc _).drew⟩, ?_⟩
                simp [intOf]; omega
            · by_cases p3 : K (maskC s.c) = true
              · rw [p3] at hsay2
                have HJ := Lib.hid (join_any u9 s.sp (s.x, r.x) w.heap.size (wr.alloc (.cells #[.int .i64 r.x, .int .i64 r.lo, .int .i64 r.hi, .int .i64 jj, .int .i64 r.more] 75)) HST2.out.own HST2.out.gr.size b6)
                dsimp only at HJ
                have HW := Lib.hid (fun (w1 : World) (u' : Value) (ho1 : OwnAt w1 w.heap.size 97 2 encS u' (pushS s.sp (s.x, r.x))) (hg1 : (wr.alloc (.cells #[.int .i64 r.x, .int .i64 r.lo, .int .i64 r.hi, .int .i64 jj, .int .i64 r.more] 75)).grownBy w1 u9.ownBlock) => HST2.out.join ho1 hg1)
                have HX := Lib.hid (fun (w1 : World) (hg1 : (wr.alloc (.cells #[.int .i64 r.x, .int .i64 r.lo, .int .i64 r.hi, .int .i64 jj, .int .i64 r.more] 75)).grownBy w1 u9.ownBlock) {i : Nat} {z : Value} hz => box_kept (w1 := w1) (i := i) (z := z) rfl HST.out.own hg1 hz)
                by_cases hpos : 0 < cj + r.more
                · have HS3 := Lib.hid (show stAt K n y E (k + 1) = ⟨pushS s.sp (s.x, r.x), s.c.set jj (cj + r.more), r.x⟩ by rw [HS2.out, if_pos ⟨p1, p2, p3⟩]; simp [bump, hcj])
                  have HM := Lib.hid (HP.out hpos)
                  go_wp2_with (first
                    | (go_at_fn g; refine (hsay2 _).mono ?_; rintro e w' ⟨rfl, rfl⟩)
                    | (go_at_call 66; refine HJ.out.mono ?_; rintro e w1 ⟨u', rfl, ho1, hg1⟩; have hst1 := HW.out w1 u' ho1 hg1; obtain ⟨z0, z1⟩ := hst1.cellC b1 hjn; rw [hcj] at z0; have z2 := HX.out w1 hg1 (i := 0) rfl; have z3 := HX.out w1 hg1 (i := 3) rfl; have z4 := HX.out w1 hg1 (i := 4) rfl; have HST3 := Lib.hid hst1; clear ho1 hg1 hst1))
                  go_region
                  all_goals go_wp2
                  refine ⟨⟨k + 1, by omega, by simp, by rw [HS3.out], by rw [HS3.out]; exact congrArg _ HM.out, by rw [HS3.out]; exact (HST3.out.set hgc b1 jj _ _).drew⟩, ?_⟩
                  simp [intOf]; omega
                · have HS3 := Lib.hid (show stAt K n y E (k + 1) = ⟨pushS s.sp (s.x, r.x), s.c.set jj (cj + r.more), r.x⟩ by rw [HS2.out, if_pos ⟨p1, p2, p3⟩]; simp [bump, hcj])
                  have HM := Lib.hid (HN.out hpos)
                  go_wp2_with (first
                    | (go_at_fn g; refine (hsay2 _).mono ?_; rintro e w' ⟨rfl, rfl⟩)
                    | (go_at_call 66; refine HJ.out.mono ?_; rintro e w1 ⟨u', rfl, ho1, hg1⟩; have hst1 := HW.out w1 u' ho1 hg1; obtain ⟨z0, z1⟩ := hst1.cellC b1 hjn; rw [hcj] at z0; have z2 := HX.out w1 hg1 (i := 0) rfl; have z3 := HX.out w1 hg1 (i := 3) rfl; have z4 := HX.out w1 hg1 (i := 4) rfl; have HST3 := Lib.hid hst1; clear ho1 hg1 hst1))
                  go_region
                  all_goals go_wp2
                  refine ⟨⟨k + 1, by omega, by simp, by rw [HS3.out], by rw [HS3.out]; exact congrArg _ HM.out, by rw [HS3.out]; exact (HST3.out.set hgc b1 jj _ _).drew⟩, ?_⟩
                  simp [intOf]; omega
              · have p3' : K (maskC s.c) = false := by simpa using p3
                rw [p3'] at hsay2
                have hsp : (if s.x < r.x ∧ maskC s.c ≠ 0 ∧ K (maskC s.c) = true then pushS s.sp (s.x, r.x) else s.sp) = s.sp := if_neg fun h => p3 h.2.2
                rw [hsp] at HS2
                by_cases hpos : 0 < cj + r.more
                · have HS3 := Lib.hid (show stAt K n y E (k + 1) = ⟨s.sp, s.c.set jj (cj + r.more), r.x⟩ by rw [HS2.out]; simp [bump, hcj])
                  have HM := Lib.hid (HP.out hpos)
                  go_wp2_with (first | (go_at_fn g; refine (hsay2 _).mono ?_; rintro e w' ⟨rfl, rfl⟩))
                  go_region
                  all_goals go_wp2
                  refine ⟨⟨k + 1, by omega, by simp, by rw [HS3.out], by rw [HS3.out]; exact congrArg _ HM.out, by rw [HS3.out]; exact ((HST.out.set hgc b1 jj _ _).alloc _).drew⟩, ?_⟩
                  simp [intOf]; omega
                · have HS3 := Lib.hid (show stAt K n y E (k + 1) = ⟨s.sp, s.c.set jj (cj + r.more), r.x⟩ by rw [HS2.out]; simp [bump, hcj])
                  have HM := Lib.hid (HN.out hpos)
                  go_wp2_with (first | (go_at_fn g; refine (hsay2 _).mono ?_; rintro e w' ⟨rfl, rfl⟩))
                  go_region
                  all_goals go_wp2
                  refine ⟨⟨k + 1, by omega, by simp, by rw [HS3.out], by rw [HS3.out]; exact congrArg _ HM.out, by rw [HS3.out]; exact ((HST.out.set hgc b1 jj _ _).alloc _).drew⟩, ?_⟩
                  simp [intOf]; omega
          · have hsp : (if s.x < r.x ∧ maskC s.c ≠ 0 ∧ K (maskC s.c) = true then pushS s.sp (s.x, r.x) else s.sp) = s.sp := if_neg fun h => p1 h.1
            rw [hsp] at HS2
            by_cases hpos : 0 < cj + r.more
            · have HS3 := Lib.hid (show stAt K n y E (k + 1) = ⟨s.sp, s.c.set jj (cj + r.more), r.x⟩ by rw [HS2.out]; simp [bump, hcj])
              have HM := Lib.hid (HP.out hpos)
              go_wp2
              go_region
              all_goals go_wp2
              refine ⟨⟨k + 1, by omega, by simp, by rw [HS3.out], by rw [HS3.out]; exact congrArg _ HM.out, by rw [HS3.out]; exact ((HST.out.set hgc b1 jj _ _).alloc _).drew⟩, ?_⟩
              simp [intOf]; omega
            · have HS3 := Lib.hid (show stAt K n y E (k + 1) = ⟨s.sp, s.c.set jj (cj + r.more), r.x⟩ by rw [HS2.out]; simp [bump, hcj])
              have HM := Lib.hid (HN.out hpos)
              go_wp2
              go_region
              all_goals go_wp2
              refine ⟨⟨k + 1, by omega, by simp, by rw [HS3.out], by rw [HS3.out]; exact congrArg _ HM.out, by rw [HS3.out]; exact ((HST.out.set hgc b1 jj _ _).alloc _).drew⟩, ?_⟩
              simp [intOf]; omega
    · obtain rfl : k = m := by omega
      have HST := Lib.hid hst
      clear hst
      go_wp2
      go_ret
      have h1 := HST.out
      rw [hfin.out] at h1
      exact ⟨_, rfl, h1.own, h1.cov, h1.gr⟩
end Go.Proofs.Ytdpnkbbphfcngab
