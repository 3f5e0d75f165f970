/- Canonical; Valid: the canonical form, and within the limit. -/
import Derived.Test.YtkpmgdhaollheaaGL
namespace Go.Proofs.Ytkpmgdhaollheaa
open Go.RowKit Go.Shelf

theorem RetB.is_yes {e : Ending} {P : Prop} (h : RetB e P) (hp : P) : e = .returned (.bool true) := by
  obtain ⟨b, rfl, hb⟩ := h
  rw [hb.2 hp]
theorem RetB.is_no {e : Ending} {P : Prop} (h : RetB e P) (hp : ¬ P) : e = .returned (.bool false) := by
  obtain ⟨b, rfl, hb⟩ := h
  cases b
  · rfl
  · exact absurd (hb.1 rfl) hp

theorem firstSp_len (r : Rc) (m : List Rc) : 0 < (firstSp (r :: m)).length ∧ (firstSp (r :: m)).length ≤ m.length + 1 := by
  have h1 : (firstSp (r :: m)).length = ((r :: m).takeWhile (sameRow r.b r.h)).length := by simp [firstSp, bandSp]
  have h2 := (List.takeWhile_sublist (sameRow r.b r.h) (l := r :: m)).length_le
  refine ⟨?_, by rw [h1]; simpa using h2⟩
  rw [h1, List.takeWhile_cons_of_pos (by simp [sameRow])]
  simp

def lenOf : Value → Nat
  | .slice _ n _ => n
  | _ => 0

/-- What the loop of Valid keeps. -/
structure VlAt (w wr : World) (bb : Nat) (lo hi : Int) (bv : Value) (bs : List Sp) (u : Value) (m : List Rc) : Prop where
  box : BoxAt wr bb #[.int .i64 lo, .int .i64 hi, bv] 99
  own : OwnAt wr w.heap.size 116 2 encS bv bs
  rects : RectsAt w u m
  below : Below w.heap.size w wr
  ge : w.heap.size ≤ bb
  len : bs.length ≤ 120 ∧ m.length ≤ 120
  ok : ∀ r ∈ m, properR r

theorem vld_inv {bh : Int} {bs : List Sp} {r : Rc} {l : List Rc} : Vld bh bs (r :: l) ↔ partP (firstSp (r :: l)) ∧ ¬ r.b < bh ∧ ¬ (bh = r.b ∧ bs = firstSp (r :: l)) ∧ Vld r.h (firstSp (r :: l)) ((r :: l).drop (firstSp (r :: l)).length) :=
  ⟨fun h => by cases h; exact ⟨by assumption, by assumption, by assumption, by assumption⟩, fun ⟨a, b, c, d⟩ => Vld.cons bh bs r l a b c d⟩

theorem VlAt.next {w w2 w4 : World} {bb : Nat} {lo hi : Int} {bv : Value} {bs : List Sp} {b off cu : Nat} {r : Rc} {m : List Rc} (h : VlAt w w2 bb lo hi bv bs (.slice (some ⟨b, off, none⟩) (m.length + 1) cu) (r :: m)) {B : Nat} {v2 : Value} {sp : List Sp} (ho : OwnAt w2 B 116 2 encS v2 sp) (hB : w.heap.size ≤ B) (hb : Below w2.heap.size w2 w4) (hc : sp.length ≤ m.length + 1) {p : Option Addr} (hp : sp.length < m.length + 1 → p = some ⟨b, off + sp.length * 4, none⟩) :
    VlAt w (((w4.setCell ⟨bb, 0, none⟩ (.int .i64 r.b)).setCell ⟨bb, 1, none⟩ (.int .i64 r.h)).setCell ⟨bb, 2, none⟩ v2) bb r.b r.h v2 sp (.slice p (m.length + 1 - sp.length) (cu - sp.length)) ((r :: m).drop sp.length) := by
  have hb4 := below_step h.below hb
  have x0 := h.box.below hb
  have x1 := x0.set 0 (.int .i64 r.b)
  have x2 := x1.set 1 (.int .i64 r.h)
  have x3 := x2.set 2 v2
  have hlen := h.len.2
  simp only [List.length_cons] at hlen
  refine ⟨x3, own_box x2 (by decide) (own_box x1 (by decide) (own_box x0 (by decide) ((ho.mono hB).kept hb))), (show RectsAt w (.slice (some ⟨b, off, none⟩) (r :: m).length cu) (r :: m) from h.rects).drop hc hp, ((hb4.setCell h.ge _).setCell h.ge _).setCell h.ge _, h.ge, ⟨by omega, by rw [List.length_drop]; simp; omega⟩, fun x hx => h.ok x (List.mem_of_mem_drop hx)⟩

/-- The boxes behind firstBand. -/
theorem VlAt.first {w wr w1 : World} {bb : Nat} {lo hi : Int} {bv : Value} {bs : List Sp} {u : Value} {m : List Rc} (h : VlAt w wr bb lo hi bv bs u m) (hb : Below wr.heap.size wr w1) : VlAt w w1 bb lo hi bv bs u m :=
  ⟨h.box.below hb, h.own.kept hb, h.rects, below_step h.below hb, h.ge, h.len, h.ok⟩

set_option maxHeartbeats 4000000 in
set_option maxRecDepth 100000 in
theorem canonical_any (v : Value) (l : List Rc) (w : World) (h : RectsAt w v l) (hl120 : l.length ≤ 120) (hp : ∀ r ∈ l, properR r) :
    Calls Try.prog 57 #[v] w fun e w' => RetB e (Vld 0 [] l) ∧ Below w.heap.size w w' := by
  have HR := Lib.hid h
  obtain ⟨p, cap, rfl⟩ := h.shape
  obtain ⟨n, hn⟩ : ∃ n, n = l.length := ⟨_, rfl⟩
  rw [← hn] at HR ⊢
  have N := Lib.hid hn
  have HPr := Lib.hid hp
  have hl : n ≤ 120 := by omega
  clear h hn hp hl120
  go_enter Try.func57, Try.ntmps57
  go_wp2
  go_loopw [4] (fun u wr => ∃ (lo hi : Int) (bv : Value) (bs : List Sp) (m : List Rc), VlAt w wr w.heap.size lo hi bv bs u m ∧ (Vld hi bs m ↔ Vld 0 [] l)) (fun u _ => lenOf u)
  case atStart =>
    exact ⟨0, 0, .slice none 0 0, [], l, ⟨BoxAt.new .., OwnAt.nil .., HR.out, (Below.refl _ _).alloc (Nat.le_refl _) _, Nat.le_refl _, ⟨Nat.zero_le _, by rw [← N.out]; exact hl⟩, HPr.out⟩, Iff.rfl⟩
  case round =>
    obtain ⟨lo, hi, bv, bs, m, hst, hiff⟩ := hrel
    have HIff := Lib.hid hiff
    have HST := Lib.hid hst
    have y0 := hst.box.cell (i := 0) rfl
    have y1 := hst.box.cell (i := 1) rfl
    have y2 := hst.box.cell (i := 2) rfl
    have yb := hst.box.lt
    cases m with
    | nil =>
      obtain ⟨pu, cu, rfl⟩ := hst.rects.shape
      clear hst hiff
      simp only [List.length_nil]
      go_wp2
      go_ret
      exact ⟨RetB.yes (HIff.out.1 (Vld.nil _ _)), HST.out.below⟩
    | cons r m =>
      obtain ⟨pv, kv, rfl⟩ := hst.own.shape
      have hml : m.length ≤ 119 := by have := hst.len.2; simpa using this
      have HFB := Lib.hid (firstBand_any u4 r m wr (hst.rects.below hst.below) (by omega))
      have hrl : (r :: m).length = m.length + 1 := rfl
      obtain ⟨pu, cu, e0, hmu, hcu, hcell⟩ := hst.rects
      rw [hrl] at e0 hcu
      subst e0
      obtain ⟨b, off, rfl, hblt, _⟩ := hcell 0 (by simp)
      obtain ⟨hs0, hs1⟩ := firstSp_len r m
      rw [vld_inv] at hiff
      have HSL := Lib.hid (show (firstSp (r :: m)).length ≤ 100000 by omega)
      have HSL2 := Lib.hid (show (firstSp (r :: m)).length ≤ 200000000000 by omega)
      have HBL := Lib.hid (show bs.length ≤ 200000000000 by have := hst.len.1; omega)
      have HI := Lib.hid hiff
      clear hst hiff HIff hcell hmu
      generalize firstSp (r :: m) = sp at *
      have hi1 : (sp.length : Int) ≤ (m.length : Int) + 1 := by omega
      have hi2 : (m.length : Int) + 1 ≤ (cu : Int) := by omega
      by_cases hpp : partP sp
      · have HPP := Lib.hid hpp
        clear hpp
        by_cases hlow : r.b < hi
        · have HNo := Lib.hid (show ¬ Vld 0 [] l from fun h => (HI.out.2 h).2.1 hlow)
          go_wp2_with (first
            | (go_at_call 79; refine Calls.mono HFB.out ?_; rintro e w2 ⟨v2, rfl, ho2, hb2⟩; have hst2 := HST.out.first hb2; have x0 := hst2.box.cell (i := 0) rfl; have x1 := hst2.box.cell (i := 1) rfl; have x2 := hst2.box.cell (i := 2) rfl; have xs := hst2.box.lt; have ST2 := Lib.hid hst2; have O2 := Lib.hid ho2; have B2 := Lib.hid hb2; obtain ⟨p2, k2, rfl⟩ := ho2.shape; clear hst2 ho2 hb2)
            | (go_at_call 80; refine Calls.mono (parted_any _ sp _ ((OwnAt.alloc O2.out _).rd (fun _ => rfl)) HSL.out) ?_; rintro e w3 ⟨hr, q, rfl⟩; obtain rfl := hr.is_yes HPP.out; clear hr))
          go_ret
          exact ⟨RetB.no HNo.out, below_drewN ((ST2.out.below).alloc ST2.out.below.size _) _⟩
        · by_cases hcc : hi = r.b ∧ bs = sp
          · have HNo := Lib.hid (show ¬ Vld 0 [] l from fun h => (HI.out.2 h).2.2.1 hcc)
            have HCC := Lib.hid (decide_eq_true hcc)
            clear hcc
            go_wp2_with (first
              | (go_at_call 79; refine Calls.mono HFB.out ?_; rintro e w2 ⟨v2, rfl, ho2, hb2⟩; have hst2 := HST.out.first hb2; have x0 := hst2.box.cell (i := 0) rfl; have x1 := hst2.box.cell (i := 1) rfl; have x2 := hst2.box.cell (i := 2) rfl; have xs := hst2.box.lt; have ST2 := Lib.hid hst2; have O2 := Lib.hid ho2; have B2 := Lib.hid hb2; obtain ⟨p2, k2, rfl⟩ := ho2.shape; clear hst2 ho2 hb2)
              | (go_at_call 80; refine Calls.mono (parted_any _ sp _ ((OwnAt.alloc O2.out _).rd (fun _ => rfl)) HSL.out) ?_; rintro e w3 ⟨hr, q, rfl⟩; obtain rfl := hr.is_yes HPP.out; clear hr)
              | (go_at_call 81; refine Calls.mono (continues_any ⟨lo, hi, .slice pv bs.length kv, bs⟩ ⟨r.b, r.h, .slice p2 sp.length k2, sp⟩ _ (OwnAt.rd (own_drewN (OwnAt.alloc ST2.out.own _) _) (fun _ => rfl)) (OwnAt.rd (own_drewN (OwnAt.alloc O2.out _) _) (fun _ => rfl)) HBL.out HSL2.out) ?_; rintro e w4 ⟨rfl, hb4⟩; rw [HCC.out]; have B4 := Lib.hid hb4; clear hb4))
            go_ret
            exact ⟨RetB.no HNo.out, below_step (below_drewN ((ST2.out.below).alloc ST2.out.below.size _) _) B4.out⟩
          · have HCC := Lib.hid (decide_eq_false hcc)
            have HIf := Lib.hid (show Vld r.h sp ((r :: m).drop sp.length) ↔ Vld 0 [] l from ⟨fun h => HI.out.1 ⟨HPP.out, hlow, hcc, h⟩, fun h => (HI.out.2 h).2.2.2⟩)
            clear hcc
            go_wp2_with (first
              | (go_at_call 79; refine Calls.mono HFB.out ?_; rintro e w2 ⟨v2, rfl, ho2, hb2⟩; have hst2 := HST.out.first hb2; have x0 := hst2.box.cell (i := 0) rfl; have x1 := hst2.box.cell (i := 1) rfl; have x2 := hst2.box.cell (i := 2) rfl; have xs := hst2.box.lt; have ST2 := Lib.hid hst2; have O2 := Lib.hid ho2; have B2 := Lib.hid hb2; obtain ⟨p2, k2, rfl⟩ := ho2.shape; clear hst2 ho2 hb2)
              | (go_at_call 80; refine Calls.mono (parted_any _ sp _ ((OwnAt.alloc O2.out _).rd (fun _ => rfl)) HSL.out) ?_; rintro e w3 ⟨hr, q, rfl⟩; obtain rfl := hr.is_yes HPP.out; clear hr)
              | (go_at_call 81; refine Calls.mono (continues_any ⟨lo, hi, .slice pv bs.length kv, bs⟩ ⟨r.b, r.h, .slice p2 sp.length k2, sp⟩ _ (OwnAt.rd (own_drewN (OwnAt.alloc ST2.out.own _) _) (fun _ => rfl)) (OwnAt.rd (own_drewN (OwnAt.alloc O2.out _) _) (fun _ => rfl)) HBL.out HSL2.out) ?_; rintro e w4 ⟨rfl, hb4⟩; rw [HCC.out]; have nb4 := BoxAt.below (w := (w2.alloc (.cells #[.int .i64 r.b, .int .i64 r.h, .slice p2 sp.length k2] 99)).drewN q) (BoxAt.new w2 #[.int .i64 r.b, .int .i64 r.h, .slice p2 sp.length k2] 99) hb4; have s0 := nb4.cell (i := 0) rfl; have s1 := nb4.cell (i := 1) rfl; have s2 := nb4.cell (i := 2) rfl; have bb4 := BoxAt.below (w := (w2.alloc (.cells #[.int .i64 r.b, .int .i64 r.h, .slice p2 sp.length k2] 99)).drewN q) (ST2.out.box.alloc (.cells #[.int .i64 r.b, .int .i64 r.h, .slice p2 sp.length k2] 99)) hb4; have t0 := bb4.cell (i := 0) rfl; have t1 := bb4.cell (i := 1) rfl; have t2 := bb4.cell (i := 2) rfl; have tf0 := bb4.free 0; have tf1 := bb4.free 1; have tf2 := bb4.free 2; have t5 := bb4.lt; have B4 := Lib.hid hb4; clear hb4 nb4 bb4))
            refine ⟨⟨r.b, r.h, _, sp, _, ST2.out.next O2.out HST.out.below.size (below_step (below_drewN ((Below.refl _ _).alloc (Nat.le_refl _) _) _) B4.out) hs1 (fun hh => if_neg (by omega)), HIf.out⟩, ?_⟩
            simp only [lenOf]
            omega
      · have HPP := Lib.hid hpp
        have HNo := Lib.hid (show ¬ Vld 0 [] l from fun h => hpp (HI.out.2 h).1)
        clear hpp
        go_wp2_with (first
          | (go_at_call 79; refine Calls.mono HFB.out ?_; rintro e w2 ⟨v2, rfl, ho2, hb2⟩; have hst2 := HST.out.first hb2; have x0 := hst2.box.cell (i := 0) rfl; have x1 := hst2.box.cell (i := 1) rfl; have x2 := hst2.box.cell (i := 2) rfl; have xs := hst2.box.lt; have ST2 := Lib.hid hst2; have O2 := Lib.hid ho2; have B2 := Lib.hid hb2; obtain ⟨p2, k2, rfl⟩ := ho2.shape; clear hst2 ho2 hb2)
          | (go_at_call 80; refine Calls.mono (parted_any _ sp _ ((OwnAt.alloc O2.out _).rd (fun _ => rfl)) HSL.out) ?_; rintro e w3 ⟨hr, q, rfl⟩; obtain rfl := hr.is_no HPP.out; clear hr))
        go_ret
        exact ⟨RetB.no HNo.out, below_drewN ((ST2.out.below).alloc ST2.out.below.size _) _⟩

set_option maxHeartbeats 4000000 in
set_option maxRecDepth 100000 in
theorem valid_any (v : Value) (l : List Rc) (w : World) (h : RectsAt w v l) :
    Calls Try.prog 24 #[.agg #[v]] w fun e w' => RetB e (ValidP l) ∧ Below w.heap.size w w' := by
  have HP := Lib.hid (fun (w' : World) (hb : Below w.heap.size w w') => allProper_any v l w' (h.below hb))
  have HR := Lib.hid h
  obtain ⟨p, cap, rfl⟩ := h.shape
  obtain ⟨n, hn⟩ : ∃ n, n = l.length := ⟨_, rfl⟩
  have hm : n ≤ maxLen := by obtain ⟨_, _, e, hm, _⟩ := h; rw [hn]; exact hm
  rw [← hn] at HP HR ⊢
  have hm' : (n : Int) ≤ 9223372036854775807 := by unfold maxLen at hm; omega
  have N := Lib.hid hn
  clear h hn
  by_cases hl : n ≤ 120
  · have hl' : (n : Int) ≤ 120 := by omega
    by_cases ha : allP l = true
    · have hp := allP_iff.1 ha
      rw [ha] at HP
      have HC := Lib.hid (fun (w' : World) (hb : Below w.heap.size w w') => canonical_any _ l w' (HR.out.below hb) (by rw [← N.out]; exact hl) hp)
      have HV := Lib.hid (show Vld 0 [] l ↔ ValidP l from (vld_iff hp).trans ⟨fun h => ⟨by rw [← N.out]; exact hl, hp, h⟩, fun h => h.2.2⟩)
      clear ha hp
      by_cases hv : Vld 0 [] l
      · have HVV := Lib.hid hv
        clear hv
        go_enter Try.func24, Try.ntmps24
        go_wp2_with (first
          | (go_at_call 53; refine Calls.mono (HP.out _ ((Below.refl _ _).alloc (Nat.le_refl _) _)) ?_; rintro e w1 ⟨rfl, hb⟩; have hbx := (BoxAt.new w #[.slice p n cap] 27).below hb; have hc0 := hbx.cell (i := 0) rfl; have hsz := hbx.lt; have HB := Lib.hid (below_new hb); clear hb hbx)
          | (go_at_call 57; refine Calls.mono (HC.out _ HB.out) ?_; rintro e w2 ⟨hr, hb⟩; obtain rfl := hr.is_yes HVV.out; have HB2 := Lib.hid (below_step HB.out hb); clear hb hr))
        go_ret
        exact ⟨RetB.yes (HV.out.1 HVV.out), HB2.out⟩
      · have HVV := Lib.hid hv
        clear hv
        go_enter Try.func24, Try.ntmps24
        go_wp2_with (first
          | (go_at_call 53; refine Calls.mono (HP.out _ ((Below.refl _ _).alloc (Nat.le_refl _) _)) ?_; rintro e w1 ⟨rfl, hb⟩; have hbx := (BoxAt.new w #[.slice p n cap] 27).below hb; have hc0 := hbx.cell (i := 0) rfl; have hsz := hbx.lt; have HB := Lib.hid (below_new hb); clear hb hbx)
          | (go_at_call 57; refine Calls.mono (HC.out _ HB.out) ?_; rintro e w2 ⟨hr, hb⟩; obtain rfl := hr.is_no HVV.out; have HB2 := Lib.hid (below_step HB.out hb); clear hb hr))
        go_ret
        exact ⟨RetB.no (fun h => HVV.out (HV.out.2 h)), HB2.out⟩
    · have ha' : allP l = false := by simpa using ha
      rw [ha'] at HP
      have hno : ¬ ValidP l := fun h => ha (allP_iff.2 h.2.1)
      have HNO := Lib.hid hno
      clear ha ha' hno
      go_enter Try.func24, Try.ntmps24
      go_wp2_with (go_at_call 53; refine Calls.mono (HP.out _ ((Below.refl _ _).alloc (Nat.le_refl _) _)) ?_; rintro e w1 ⟨rfl, hb⟩; have HB := Lib.hid (below_new hb); clear hb)
      go_ret
      exact ⟨RetB.no HNO.out, HB.out⟩
  · have hl' : ¬ (n : Int) ≤ 120 := by omega
    have HNO := Lib.hid (show ¬ ValidP l from fun h => hl (by have := h.1; rw [N.out]; exact this))
    go_enter Try.func24, Try.ntmps24
    go_wp2
    go_ret
    exact ⟨RetB.no HNO.out, (Below.refl _ _).alloc (Nat.le_refl _) _⟩
end Go.Proofs.Ytkpmgdhaollheaa
