/- spansOf: the spans of a row. -/
import Derived.Test.YtclogmnokjcegaaGF
import Derived.Lib.OwnKind
import Derived.OneCell
namespace Go.Proofs.Ytclogmnokjcegaa
open Go.RowKit

/-- A function value that tells which squares are kept. -/
structure KeepAt (k : Bool → Bool → Bool) (g : Nat) : Prop where
  enter : ∀ args w, (callFunc g args).run Try.prog w = .ok (.enter g args) w
  says : ∀ a b w, Calls Try.prog g #[.bool a, .bool b] w fun e w' => e = .returned (.bool (k a b)) ∧ w = w'

/-- The box of the counts. -/
def Cov (w : World) (cb : Nat) (a b : Int) : Prop := w.heap[cb]? = some (.cells #[.int .i64 a, .int .i64 b] 47 (0, 0))
theorem Cov.cells {w : World} {cb : Nat} {a b : Int} (h : Cov w cb a b) : w.cell? ⟨cb, 0, none⟩ = some (.int .i64 a) ∧ w.cell? ⟨cb, 1, none⟩ = some (.int .i64 b) ∧ w.frozen? ⟨cb, 0, none⟩ = false ∧ w.frozen? ⟨cb, 1, none⟩ = false := by
  unfold Cov at h
  refine ⟨?_, ?_, ?_, ?_⟩ <;> simp [World.cell?, World.frozen?, h]
theorem Cov.alloc {w : World} {cb : Nat} {a b : Int} (h : Cov w cb a b) (o : Obj) : Cov (w.alloc o) cb a b := by
  unfold Cov
  rw [Below.heap_alloc _ _ _ (Array.getElem?_eq_some_iff.1 h).1]
  exact h
theorem Cov.lt {w : World} {cb : Nat} {a b : Int} (h : Cov w cb a b) : cb < w.heap.size := (Array.getElem?_eq_some_iff.1 h).1
theorem Cov.grown {w w' : World} {cb : Nat} {a b : Int} {B k n : Nat} {v : Value} {xs : List Value} (h : Cov w cb a b) (hg : w.grownBy w' v.ownBlock) (ho : w.ownsRow B 115 k v n xs) : Cov w' cb a b := by
  unfold Cov
  rw [hg.block cb h.lt ?_]
  · exact h
  · intro e
    obtain ⟨c, fz, hc⟩ := Lib.ownsRow_kind ho cb e.symm
    rw [show w.heap[cb]? = _ from h] at hc
    simp at hc
theorem Cov.set0 {w : World} {cb : Nat} {a b : Int} (h : Cov w cb a b) (u : Int) : Cov (w.setCell ⟨cb, 0, none⟩ (.int .i64 u)) cb u b := by
  unfold Cov
  rw [heap_setCell_same w cb 0 _ _ _ h]
  rfl
theorem Cov.set1 {w : World} {cb : Nat} {a b : Int} (h : Cov w cb a b) (u : Int) : Cov (w.setCell ⟨cb, 1, none⟩ (.int .i64 u)) cb a u := by
  unfold Cov
  rw [heap_setCell_same w cb 1 _ _ _ h]
  rfl
theorem Cov.own {w : World} {cb : Nat} {a b : Int} (h : Cov w cb a b) {B k n j : Nat} {v u : Value} {xs : List Value} (ho : w.ownsRow B 115 k v n xs) : (w.setCell ⟨cb, j, none⟩ u).ownsRow B 115 k v n xs := by
  refine ownsRow_setCell_other ho ?_ u
  intro e
  obtain ⟨c, fz, hc⟩ := Lib.ownsRow_kind ho cb e
  rw [show w.heap[cb]? = _ from h] at hc
  simp at hc

def stAt (K : Bool → Bool → Bool) (y : Int) (E : List Ed) (k : Nat) : SpSt := spansSt K y (E.take k)
theorem stAt_succ {K : Bool → Bool → Bool} {y : Int} {E : List Ed} {k : Nat} (h : k < E.length) : stAt K y E (k + 1) = spStep K y (stAt K y E k) E[k]! := by
  unfold stAt spansSt
  rw [List.take_succ_eq_append_getElem h, List.foldl_append, getElem!_pos E k h]
  rfl

def EdOk (E : List Ed) : Prop := ∀ e ∈ E, (e.list = 0 ∨ e.list = 1) ∧ (e.more = 1 ∨ e.more = -1)

theorem stAt_bounds {K : Bool → Bool → Bool} {y : Int} {E : List Ed} (hE : EdOk E) : ∀ k, k ≤ E.length → -(k : Int) ≤ (stAt K y E k).c0 ∧ (stAt K y E k).c0 ≤ k ∧ -(k : Int) ≤ (stAt K y E k).c1 ∧ (stAt K y E k).c1 ≤ k ∧ (stAt K y E k).sp.length ≤ k
  | 0, _ => by simp [stAt, spansSt]
  | k + 1, hk => by
    have ih := stAt_bounds (K := K) (y := y) hE k (by omega)
    rw [stAt_succ (by omega)]
    generalize stAt K y E k = s at *
    have hm := hE E[k]! (by rw [getElem!_pos E k (by omega)]; exact List.getElem_mem _)
    generalize E[k]! = e at *
    unfold spStep
    split
    · omega
    · have hp := pushS_len (s.x, e.x) s.sp
      refine ⟨?_, ?_, ?_, ?_, ?_⟩
      · show _ ≤ (if e.list = 0 then _ else _); split <;> omega
      · show (if e.list = 0 then _ else _) ≤ _; split <;> omega
      · show _ ≤ (if e.list = 0 then _ else _); split <;> omega
      · show (if e.list = 0 then _ else _) ≤ _; split <;> omega
      · show (if _ then _ else _ : List Sp).length ≤ _; split <;> omega

/-- What the loop keeps. -/
structure SpAt (w wr : World) (cb : Nat) (u x : Value) (s : SpSt) : Prop where
  own : OwnAt wr w.heap.size 115 2 encS u s.sp
  cov : Cov wr cb s.c0 s.c1
  x : x = .int .i64 s.x
  below : Below w.heap.size w wr

theorem SpAt.alloc {w wr : World} {cb : Nat} {u x : Value} {s : SpSt} (h : SpAt w wr cb u x s) (o : Obj) : SpAt w (wr.alloc o) cb u x s :=
  ⟨World.ownsRow.alloc h.own o, h.cov.alloc o, h.x, h.below.alloc h.below.size o⟩
theorem SpAt.drew {w wr : World} {cb : Nat} {u x : Value} {s : SpSt} (h : SpAt w wr cb u x s) : SpAt w wr.drew cb u x s :=
  ⟨World.ownsRow.drew h.own, h.cov, h.x, h.below.drew⟩
theorem SpAt.fin0 {w W : World} {u : Value} {l : List Sp} {a b : Int} (ho : OwnAt W w.heap.size 115 2 encS u l) (hc : Cov W w.heap.size a b) (hb : Below w.heap.size w W) (v x : Int) : SpAt w (W.setCell ⟨w.heap.size, 0, none⟩ (.int .i64 v)) w.heap.size u (.int .i64 x) ⟨l, v, b, x⟩ :=
  ⟨hc.own ho, hc.set0 v, rfl, hb.setCell (Nat.le_refl _) _⟩
theorem SpAt.fin1 {w W : World} {u : Value} {l : List Sp} {a b : Int} (ho : OwnAt W w.heap.size 115 2 encS u l) (hc : Cov W w.heap.size a b) (hb : Below w.heap.size w W) (v x : Int) : SpAt w (W.setCell ⟨w.heap.size, 1, none⟩ (.int .i64 v)) w.heap.size u (.int .i64 x) ⟨l, a, v, x⟩ :=
  ⟨hc.own ho, hc.set1 v, rfl, hb.setCell (Nat.le_refl _) _⟩

/-- The boxes of a round behind join. -/
theorem box_kept {w wr w1 : World} {u : Value} {l : List Sp} {r : Ed} {c0 c1 : Int} (ho : OwnAt wr w.heap.size 115 2 encS u l)
    (ha : (wr.alloc (.cells #[.int .i64 r.x, .int .i64 r.lo, .int .i64 r.hi, .int .i64 r.list, .int .i64 r.more] 101)).ownsRow w.heap.size 115 2 u l.length (l.flatMap encS))
    (hc : Cov (wr.alloc (.cells #[.int .i64 r.x, .int .i64 r.lo, .int .i64 r.hi, .int .i64 r.list, .int .i64 r.more] 101)) w.heap.size c0 c1)
    (hg : (wr.alloc (.cells #[.int .i64 r.x, .int .i64 r.lo, .int .i64 r.hi, .int .i64 r.list, .int .i64 r.more] 101)).grownBy w1 u.ownBlock) :
    w1.cell? ⟨w.heap.size, 0, none⟩ = some (.int .i64 c0) ∧ w1.cell? ⟨w.heap.size, 1, none⟩ = some (.int .i64 c1) ∧ w1.frozen? ⟨w.heap.size, 0, none⟩ = false ∧ w1.frozen? ⟨w.heap.size, 1, none⟩ = false ∧
    w1.cell? ⟨wr.heap.size, 0, none⟩ = some (.int .i64 r.x) ∧ w1.cell? ⟨wr.heap.size, 1, none⟩ = some (.int .i64 r.lo) ∧ w1.cell? ⟨wr.heap.size, 2, none⟩ = some (.int .i64 r.hi) ∧ w1.cell? ⟨wr.heap.size, 3, none⟩ = some (.int .i64 r.list) ∧ w1.cell? ⟨wr.heap.size, 4, none⟩ = some (.int .i64 r.more) := by
  have h1 := hc.grown hg ha
  obtain ⟨a1, a2, a3, a4⟩ := h1.cells
  have hne : some wr.heap.size ≠ u.ownBlock := by
    intro e
    have := (World.ownsRow.lt ho _ e.symm).2
    omega
  refine ⟨a1, a2, a3, a4, ?_, ?_, ?_, ?_, ?_⟩ <;> exact hg.cell (by simp) hne

set_option maxHeartbeats 4000000 in
set_option maxRecDepth 100000 in
theorem spansOf_any (K : Bool → Bool → Bool) (g : Nat) (hK : KeepAt K g) (v : Value) (E : List Ed) (y : Int) (B : Nat) (w : World) (h : OwnAt w B 101 5 encE v E) (hE : EdOk E) (hl : E.length ≤ 10000) :
    Calls Try.prog 86 #[v, .int .i64 y, .func (.func g) #[] #[]] w fun e w' => ∃ v', e = .returned v' ∧ OwnAt w' w.heap.size 115 2 encS v' (spansOf K E y) ∧ Below w.heap.size w w' := by
  have eg := hK.enter
  have hsay := hK.says
  obtain ⟨p, cap, rfl⟩ := h.shape
  have HE := Lib.hid h
  have HEd := Lib.hid hE
  have HBd := Lib.hid (stAt_bounds (K := K) (y := y) hE)
  obtain ⟨n, hn⟩ : ∃ n, n = E.length := ⟨_, rfl⟩
  rw [← hn]
  have N := Lib.hid hn
  have hn' : (n : Int) ≤ 10000 := by omega
  have hfin := Lib.hid (show (stAt K y E n).sp = spansOf K E y by unfold stAt; rw [List.take_of_length_le (by omega)]; rfl)
  clear h hn hE hK
  go_enter Try.func86, Try.ntmps86
  go_wp2
  go_loopw [7, 9, 14] (fun u x i wr => ∃ k : Nat, k ≤ n ∧ i = .int .i64 k ∧ SpAt w wr w.heap.size u x (stAt K y E k)) (fun _ _ i _ => n - (intOf i).toNat)
  case atStart => exact ⟨0, Nat.zero_le _, rfl, ⟨OwnAt.nil .., heap_alloc_new w _, rfl, (Below.refl _ _).alloc (Nat.le_refl _) _⟩⟩
  case round =>
    obtain ⟨k, hk, rfl, hst⟩ := hrel
    by_cases hkn : k < n
    · have hkE : k < E.length := by rw [← N.out]; exact hkn
      have hE := HE.out.kept hst.below
      obtain ⟨g1, cap', e1, _, hg, _⟩ := hE.form (by omega)
      cases e1
      have d0 := hE.cell encE_len rfl hkE (i := 0) rfl
      have d1 := hE.cell encE_len rfl hkE (i := 1) rfl
      have d2 := hE.cell encE_len rfl hkE (i := 2) rfl
      have d3 := hE.cell encE_len rfl hkE (i := 3) rfl
      have d4 := hE.cell encE_len rfl hkE (i := 4) rfl
      have hkn' : (k : Int) < (n : Int) := by omega
      have hb5 := HBd.out k (by omega)
      have hm := HEd.out E[k]! (by rw [getElem!_pos E k hkE]; exact List.getElem_mem _)
      have hsucc := stAt_succ (K := K) (y := y) hkE
      obtain ⟨hown, hcov, rfl, hbel⟩ := hst
      have HB := Lib.hid hbel
      have HO := Lib.hid hown
      have HC := Lib.hid hcov
      obtain ⟨k0, k1, f0, f1⟩ := hcov.cells
      have hcb := hcov.lt
      clear hE hbel hown hcov
      generalize E[k]! = r at *
      generalize stAt K y E k = s at *
      obtain ⟨b1, b2, b3, b4, b5⟩ := hb5
      obtain ⟨m1, m2⟩ := hm
      have b6 : s.sp.length ≤ 100000 := by omega
      simp only [Nat.add_zero] at d0
      have n1 : g1 ≠ wr.heap.size := by omega
      unfold spStep at hsucc
      have HS := Lib.hid hsucc
      clear hsucc
      by_cases a1 : y < r.lo
      · have HS2 := Lib.hid (show stAt K y E (k + 1) = s by rw [HS.out, if_pos (.inl a1)])
        go_wp2
        go_roundw
        case rel => exact ⟨k + 1, by omega, by simp, by rw [HS2.out]; exact ⟨HO.out.kept ((Below.refl _ _).alloc (Nat.le_refl _) _), HC.out.alloc _, rfl, HB.out.alloc HB.out.size _⟩⟩
        case measure => simp [intOf]; omega
      · by_cases a2 : r.hi ≤ y
        · have HS2 := Lib.hid (show stAt K y E (k + 1) = s by rw [HS.out, if_pos (.inr a2)])
          go_wp2
          go_roundw
          case rel => exact ⟨k + 1, by omega, by simp, by rw [HS2.out]; exact ⟨HO.out.kept ((Below.refl _ _).alloc (Nat.le_refl _) _), HC.out.alloc _, rfl, HB.out.alloc HB.out.size _⟩⟩
          case measure => simp [intOf]; omega
        · have HS2 := Lib.hid HS.out
          rw [if_neg (by omega)] at HS2
          have hsay2 := fun w => hsay (decide (0 < s.c0)) (decide (0 < s.c1)) w
          by_cases hx : s.x < r.x
          · by_cases hkk : K (decide (0 < s.c0)) (decide (0 < s.c1)) = true
            · rw [hkk] at hsay2
              have HA := Lib.hid (World.ownsRow.alloc HO.out (.cells #[.int .i64 r.x, .int .i64 r.lo, .int .i64 r.hi, .int .i64 r.list, .int .i64 r.more] 101))
              have HJ := Lib.hid (join_any u7 s.sp (s.x, r.x) w.heap.size (wr.alloc (.cells #[.int .i64 r.x, .int .i64 r.lo, .int .i64 r.hi, .int .i64 r.list, .int .i64 r.more] 101)) HA.out (by have := HB.out.size; simp; omega) b6)
              dsimp only at HJ
              have hcov := HC.out.alloc (.cells #[.int .i64 r.x, .int .i64 r.lo, .int .i64 r.hi, .int .i64 r.list, .int .i64 r.more] 101)
              have HW := Lib.hid (fun (w1 : World) (hg1 : (wr.alloc (.cells #[.int .i64 r.x, .int .i64 r.lo, .int .i64 r.hi, .int .i64 r.list, .int .i64 r.more] 101)).grownBy w1 u7.ownBlock) => box_kept HO.out HA.out hcov hg1)
              rcases m1 with m1 | m1
              · rw [m1] at d3 HS2 HJ HW HA hcov
                have HS3 := Lib.hid (show stAt K y E (k + 1) = ⟨pushS s.sp (s.x, r.x), s.c0 + r.more, s.c1, r.x⟩ by rw [HS2.out, if_pos ⟨hx, hkk⟩]; simp)
                go_wp2_with (first
                  | (go_at_fn g; refine (hsay2 _).mono ?_; rintro e w' ⟨rfl, rfl⟩)
                  | (go_at_call 116; refine HJ.out.mono ?_; rintro e w1 ⟨u', rfl, ho1, hg1⟩; have HO1 := Lib.hid ho1; have HG1 := Lib.hid hg1; obtain ⟨z0, z1, z3, z4, z5, z6, z7, z8, z9⟩ := HW.out w1 hg1; have HC1 := Lib.hid (hcov.grown hg1 HA.out); clear ho1 hg1))
                go_region
                all_goals go_wp2
                refine ⟨⟨k + 1, by omega, by simp, by rw [HS3.out]; exact (SpAt.fin0 HO1.out HC1.out ((HB.out.alloc HB.out.size _).grown HG1.out (by have := HB.out.size; simp; omega) (ownsRow_ge HO.out)) _ _).drew⟩, ?_⟩
                simp [intOf]; omega
              · rw [m1] at d3 HS2 HJ HW HA hcov
                have HS3 := Lib.hid (show stAt K y E (k + 1) = ⟨pushS s.sp (s.x, r.x), s.c0, s.c1 + r.more, r.x⟩ by rw [HS2.out, if_pos ⟨hx, hkk⟩]; simp)
                go_wp2_with (first
                  | (go_at_fn g; refine (hsay2 _).mono ?_; rintro e w' ⟨rfl, rfl⟩)
                  | (go_at_call 116; refine HJ.out.mono ?_; rintro e w1 ⟨u', rfl, ho1, hg1⟩; have HO1 := Lib.hid ho1; have HG1 := Lib.hid hg1; obtain ⟨z0, z1, z3, z4, z5, z6, z7, z8, z9⟩ := HW.out w1 hg1; have HC1 := Lib.hid (hcov.grown hg1 HA.out); clear ho1 hg1))
                go_region
                all_goals go_wp2
                refine ⟨⟨k + 1, by omega, by simp, by rw [HS3.out]; exact (SpAt.fin1 HO1.out HC1.out ((HB.out.alloc HB.out.size _).grown HG1.out (by have := HB.out.size; simp; omega) (ownsRow_ge HO.out)) _ _).drew⟩, ?_⟩
                simp [intOf]; omega
            · have hkk' : K (decide (0 < s.c0)) (decide (0 < s.c1)) = false := by simpa using hkk
              rw [hkk'] at hsay2
              go_wp2_with (first | (go_at_fn g; refine (hsay2 _).mono ?_; rintro e w' ⟨rfl, rfl⟩))
              rcases m1 with m1 | m1
              · rw [m1] at d3 HS2
                have HS3 := Lib.hid (show stAt K y E (k + 1) = ⟨s.sp, s.c0 + r.more, s.c1, r.x⟩ by rw [HS2.out, if_neg (by rw [hkk']; simp)]; simp)
                go_region
                all_goals go_wp2
                refine ⟨⟨k + 1, by omega, by simp, by rw [HS3.out]; exact ((SpAt.fin0 HO.out HC.out HB.out _ _).alloc _).drew⟩, ?_⟩
                simp [intOf]; omega
              · rw [m1] at d3 HS2
                have HS3 := Lib.hid (show stAt K y E (k + 1) = ⟨s.sp, s.c0, s.c1 + r.more, r.x⟩ by rw [HS2.out, if_neg (by rw [hkk']; simp)]; simp)
                go_region
                all_goals go_wp2
                refine ⟨⟨k + 1, by omega, by simp, by rw [HS3.out]; exact ((SpAt.fin1 HO.out HC.out HB.out _ _).alloc _).drew⟩, ?_⟩
                simp [intOf]; omega
          · go_wp2
            rcases m1 with m1 | m1
            · rw [m1] at d3 HS2
              have HS3 := Lib.hid (show stAt K y E (k + 1) = ⟨s.sp, s.c0 + r.more, s.c1, r.x⟩ by rw [HS2.out, if_neg (by intro h; omega)]; simp)
              go_region
              all_goals go_wp2
              refine ⟨⟨k + 1, by omega, by simp, by rw [HS3.out]; exact ((SpAt.fin0 HO.out HC.out HB.out _ _).alloc _).drew⟩, ?_⟩
              simp [intOf]; omega
            · rw [m1] at d3 HS2
              have HS3 := Lib.hid (show stAt K y E (k + 1) = ⟨s.sp, s.c0, s.c1 + r.more, r.x⟩ by rw [HS2.out, if_neg (by intro h; omega)]; simp)
              go_region
              all_goals go_wp2
              refine ⟨⟨k + 1, by omega, by simp, by rw [HS3.out]; exact ((SpAt.fin1 HO.out HC.out HB.out _ _).alloc _).drew⟩, ?_⟩
              simp [intOf]; omega
    · obtain rfl : k = n := by omega
      have HO := Lib.hid hst.own
      have HB := Lib.hid hst.below
      obtain ⟨_, _, rfl, _⟩ := hst
      go_wp2
      go_ret
      exact ⟨_, rfl, by rw [← hfin.out]; exact HO.out, HB.out⟩
end Go.Proofs.Ytclogmnokjcegaa
