/- Choose: the canonical rectangles of the squares that are kept. -/
import Derived.Test.YtkpmgdhaollheaaIR
import Derived.Test.YtkpmgdhaollheaaIV
import Derived.Test.YtkpmgdhaollheaaIU
import Derived.Test.YtkpmgdhaollheaaGG
import Derived.Deep.Onto
import Derived.OwnWalk
namespace Go.Proofs.Ytkpmgdhaollheaa
open Go.RowKit Go.Shelf

attribute [local go_sem] Oper.semAt_some

theorem OwnAt.mono {α : Type} {w : World} {B B' : Nat} {e : TypeId} {k : Nat} {enc : α → List Value} {v : Value} {l : List α} (h : OwnAt w B e k enc v l) (hb : B' ≤ B) : OwnAt w B' e k enc v l := World.ownsRow.mono h hb

/-- Add, whole. -/
theorem add_any (K B : Nat) (L : List BB) (r : Rc) (vb : Value) (w : World) (h : SqAt w B K L vb) (hl : L.length ≤ 200000000000) (hc : ∀ b ∈ L, b.c.length ≤ 200000000000) :
    Calls Try.prog 71 #[.pointer (some ⟨K, 0, none⟩), .agg #[.int .i64 r.l, .int .i64 r.b, .int .i64 r.r, .int .i64 r.h]] w fun e w' => e = .returned (.tuple #[]) ∧ ∃ (L' : List BB) (vb' : Value), L'.map BB.band = addL (L.map BB.band) r ∧ SqAt w' B K L' vb' ∧ Keep UU w w' ∧ Below K w w' := by
  by_cases hex : ∃ M t, L = M ++ [t] ∧ t.lo = r.b
  · obtain ⟨M, t, rfl, hlo⟩ := hex
    refine (addIn_any K B M t r vb w h hlo (by rw [List.length_append] at hl; omega) (hc t (by simp))).mono ?_
    rintro e w' ⟨he, v', h1, h2, h3⟩
    exact ⟨he, _, vb, band_last hlo, h1, h2, h3.mono (Nat.le_of_lt h.KB)⟩
  · have hne : ∀ M t, L = M ++ [t] → t.lo ≠ r.b := fun M t e h' => hex ⟨M, t, e, h'⟩
    refine (addNew_any K B L r vb w h hne hl hc).mono ?_
    rintro e w' ⟨he, v', vb', h1, h2, h3⟩
    refine ⟨he, _, vb', ?_, h1, h2, h3⟩
    have hlast : ∀ b, (L.map BB.band).getLast? = some b → b.lo ≠ r.b := by
      intro b hb
      rcases List.eq_nil_or_concat L with rfl | ⟨M, t, rfl⟩
      · cases hb
      · rw [List.concat_eq_append] at *
        simp at hb
        subst hb
        exact hne M t rfl
    rw [addL_new _ _ hlast, List.map_append, settledB_band]
    rfl

theorem pieces_any (p : Option Addr) (m c kb : Nat) (w : World) (hkb : w.heap.size = kb) : Calls Try.prog 70 #[.slice p m c] w fun e w' => e = .returned (.func (.func 86) #[] #[.pointer (some ⟨kb, 0, none⟩)]) ∧ w' = w.alloc (.cells #[.slice p m c] 83) := by
  subst hkb
  go_enter Try.func70, Try.ntmps70
  go_wp2
  go_ret
  exact ⟨rfl, rfl⟩

/-- What the loop of Choose keeps. -/
def ChI (w : World) (K : Int → Bool) (g B : Nat) (pre : List (Int × Rc)) (X : World) : Prop :=
  ∃ (L : List BB) (vb : Value), L.map BB.band = sqL (keptR K pre) ∧ SqAt X B (w.heap.size + 1) L vb ∧ BoxAt X w.heap.size #[.func (.func g) #[] #[]] 68 ∧ Below w.heap.size w X

theorem ChI.abid (w : World) (K : Int → Bool) (g B : Nat) (hB : w.heap.size ≤ B) : Abid UU B (ChI w K g B) := by
  rintro pre X Y ⟨L, vb, h1, h2, h3, h4⟩ ht
  exact ⟨L, vb, h1, h2.turn ht (by decide) (by decide) (by decide), ht.box (.inr (by decide)) h3, h4.trans ((ht.below h2.sz).mono hB)⟩

set_option maxHeartbeats 8000000 in
set_option maxRecDepth 100000 in
theorem choose_any (K : Int → Bool) (g : Nat) (hK : KeepAt K g) (v : Value) (Ls : List (List Rc)) (w : World) (h : ListsAt w v Ls) (hL0 : 0 < Ls.length) (hL : Ls.length ≤ 62) (ht : tot Ls ≤ 120000) (hr : rowsOf Ls) :
    Calls Try.prog 55 #[.func (.func g) #[] #[], v] w fun e w' => ∃ v' out, e = .returned v' ∧ OwnAt w' w.heap.size 39 4 encR v' out ∧ CanonFor (fun x y => keepK K (setOf Ls x y)) out ∧ out.length ≤ 8 * (tot Ls * tot Ls) ∧ Below w.heap.size w w' := by
  obtain ⟨b0, cap0, rfl, _⟩ := id h
  have hbig : 8 * (tot Ls * tot Ls) ≤ 115200000000 := by
    have := Nat.mul_le_mul ht ht
    omega
  have HH := Lib.hid h
  have HK := Lib.hid hK
  have HR := Lib.hid hr
  have HT := Lib.hid ht
  have HL := Lib.hid hL
  have HBig := Lib.hid hbig
  have eg := hK.enter
  obtain ⟨n, hn⟩ : ∃ n, n = Ls.length := ⟨_, rfl⟩
  have HN := Lib.hid hn
  clear h hK hr hL0 hL ht hbig
  rw [← hn]
  clear hn
  refine (callsIn_wide (n := 0)).1 ?_
  refine callsIn_of_wp_marks Try.func55 rfl trivial ?_ rfl
  simp only [Try.ntmps55, List.size_toArray, List.length_cons, List.length_nil, Nat.reduceAdd, Nat.reduceSub, Array.replicate_succ, Array.replicate_zero, List.push_toArray, List.append_toArray, List.nil_append, List.cons_append]
  gi_wp2_with fail
  refine ⟨trivial, rfl, ?_⟩
  obtain ⟨w2, hw2⟩ : ∃ w2, w2 = (w.alloc (.cells #[.func (.func g) #[] #[]] 68)).alloc (.cells #[.slice none 0 0] 90) := ⟨_, rfl⟩
  rw [← hw2]
  have hs2 : w2.heap.size = w.heap.size + 2 := by rw [hw2]; simp
  have hb2 : Below w.heap.size w w2 := by rw [hw2]; exact ((Below.refl _ _).alloc (Nat.le_refl _) _).alloc (by simp) _
  have hk2 : BoxAt w2 w.heap.size #[.func (.func g) #[] #[]] 68 := by rw [hw2]; exact (BoxAt.new w _ _).alloc _
  have hq2 : BoxAt w2 (w.heap.size + 1) #[.slice none 0 0] 90 := by
    have := BoxAt.new (w.alloc (.cells #[.func (.func g) #[] #[]] 68)) #[.slice none 0 0] 90
    rw [World.size_alloc] at this
    rw [hw2]; exact this
  clear hw2
  refine (callsIn_wide.2 (pieces_any _ _ _ _ w2 hs2)).mono ?_
  rintro e w3 ⟨rfl, hw3⟩
  have hs3 : w3.heap.size = w.heap.size + 3 := by rw [hw3, World.size_alloc, hs2]
  have hb23 : Below w2.heap.size w2 w3 := by rw [hw3]; exact (Below.refl _ _).alloc (Nat.le_refl _) _
  have hbx : BoxAt w3 (w.heap.size + 2) #[.slice (some ⟨b0, 0, none⟩) n cap0] 83 := by
    have := BoxAt.new w2 #[.slice (some ⟨b0, 0, none⟩) n cap0] 83
    rw [hs2] at this
    rw [hw3]; exact this
  clear hw3
  have hb3 := below_step hb2 hb23
  have h0 : ChI w K g w3.heap.size [] w3 := ⟨[], .slice none 0 0, rfl, ⟨hq2.below hb23, OwnAt.nil .., fun b hb => (by cases hb), fun M t e => by simp at e, Nat.le_refl _, by omega, fun _ => rfl⟩, hk2.below hb23, hb3⟩
  have HL3 := Lib.hid (ListsAt.below HH.out hb3)
  have H0 := Lib.hid h0
  have HBX := Lib.hid hbx
  clear hs2 hb2 hk2 hq2 hb23 hb3 h0 hbx HH
  gi_wp2_with fail
  refine range_X (gf := 86) (lb := #[.pointer (some ⟨w.heap.size + 2, 0, none⟩)]) rfl (enters_of Try.func86 (by kernel_rfl) rfl) (U := UU) (by decide)
    (pieces_stops (w.heap.size + 2) (.slice (some ⟨b0, 0, none⟩) n cap0) Ls w3 HBX.out (by rw [HN.out]; exact HL3.out) HT.out HL.out) (fun _ => rfl)
    (ChI w K g w3.heap.size) (fun _ _ _ => False) (ChI.abid w K g _ (by omega)) (fun _ _ _ _ h _ => h) H0.out ?hround ?hdone ?hstop
  case hround =>
    rintro l1 pre ⟨sx, r⟩ X hIX ⟨xs, hxs, hpre⟩ hl1 hl2
    have hplen : pre.length ≤ 115200000000 := by
      have h1 := pcs_len hxs
      have h2 := hpre.length_le
      have h3 := HBig.out
      rw [List.length_append] at h2
      omega
    have HSb := Lib.hid (BoxAt.new X (rcC r) 39)
    clear hIX hpre hxs
    simp only [encPc]
    gi_wp2
    refine ⟨below_one X _, fun W2 hg2 hs2 hI2 => ?_⟩
    have hsb2 : BoxAt W2 X.heap.size (rcC r) 39 := (hg2.block _ (by simp) (by simp; omega)).trans HSb.out
    obtain ⟨L, vb, hm, hsq, hkx, hbx⟩ := hI2
    have k0 : W2.cell? ⟨w.heap.size, 0, none⟩ = some (.func (.func g) #[] #[]) := hkx.cell (i := 0) rfl
    have x0 : W2.cell? ⟨X.heap.size, 0, none⟩ = some (.int .i64 r.l) := hsb2.cell (i := 0) rfl
    have x1 : W2.cell? ⟨X.heap.size, 1, none⟩ = some (.int .i64 r.b) := hsb2.cell (i := 1) rfl
    have x2 : W2.cell? ⟨X.heap.size, 2, none⟩ = some (.int .i64 r.r) := hsb2.cell (i := 2) rfl
    have x3 : W2.cell? ⟨X.heap.size, 3, none⟩ = some (.int .i64 r.h) := hsb2.cell (i := 3) rfl
    obtain ⟨q1, q2, q3⟩ := sq_bounds K pre
    have hLl : L.length ≤ 200000000000 := by
      have : (L.map BB.band).length = L.length := List.length_map ..
      rw [hm] at this
      omega
    have hLc : ∀ b ∈ L, b.c.length ≤ 200000000000 := fun b hb => by
      have := q3 b.band (by rw [← hm]; exact List.mem_map_of_mem hb)
      have e : b.band.c = b.c := rfl
      rw [e] at this
      omega
    have HA := Lib.hid (add_any (w.heap.size + 1) w3.heap.size L r vb W2 hsq hLl hLc)
    have HM := Lib.hid hm
    have HSQ := Lib.hid hsq
    have HKX := Lib.hid hkx
    have HBL := Lib.hid hbx
    clear hsb2 hm hsq hkx hbx q1 q2 q3 hLl hLc hg2 hs2
    gi_wp2_with fail
    refine ⟨trivial, rfl, (CallsIn.inRound l1 (callsIn_wide.2 (HK.out.says sx W2))).mono ?_⟩
    rintro e W3 ⟨rfl, hww⟩
    subst hww
    cases hk : K sx
    · gi_wp2
      exact ⟨Keep.refl _ _, L, vb, by rw [kept_snoc, hk]; exact HM.out, HSQ.out, HKX.out, HBL.out⟩
    · gi_wp2_with fail
      refine ⟨trivial, rfl, (CallsIn.inRound l1 (callsIn_wide.2 HA.out)).mono ?_⟩
      rintro e W4 ⟨rfl, L', vb', h1, h2, h3, h4⟩
      have H1 := Lib.hid h1
      have H2 := Lib.hid h2
      have H3 := Lib.hid h3
      have H4 := Lib.hid h4
      clear h1 h2 h3 h4
      gi_wp2
      exact ⟨H3.out, L', vb', by rw [kept_snoc, hk, if_pos rfl, sqL_snoc, H1.out, HM.out], H2.out, (H4.out.block _ (by omega)).trans HKX.out, HBL.out.trans (H4.out.mono (by omega))⟩
  case hdone =>
    rintro D xs X hD hS ⟨L, vb, hm, hsq, hkx, hbx⟩ hdef
    have hxl := pcs_len hS
    obtain ⟨q1, q2, q3⟩ := sq_bounds K xs
    have hbig := HBig.out
    have hLl : L.length ≤ 200000000000 := by
      have : (L.map BB.band).length = L.length := List.length_map ..
      rw [hm] at this
      omega
    have hLc : ∀ b ∈ L, b.c.length ≤ 200000000000 := fun b hb => by
      have := q3 b.band (by rw [← hm]; exact List.mem_map_of_mem hb)
      have e : b.band.c = b.c := rfl
      rw [e] at this
      omega
    have hflat : flatB (settledB L) = flat (settledL (sqL (keptR K xs))) := by unfold flatB; rw [settledB_band, hm]
    have hfll : (flatB (settledB L)).length ≤ 8 * (tot Ls * tot Ls) := by
      have := settledL_flat (sqL (keptR K xs))
      rw [hflat]
      omega
    have HRc := Lib.hid (rects_any (w.heap.size + 1) w3.heap.size L vb X hsq hLl hLc (by omega))
    have HFl := Lib.hid hfll
    have HCan := Lib.hid (show CanonFor (fun x y => keepK K (setOf Ls x y)) (flatB (settledB L)) by
      obtain ⟨E, hp, hs, rfl⟩ := hS
      obtain ⟨o1, o2, _⟩ := cutsL_ok E
      rw [hflat]
      exact squares_for HR.out hp hs o1 fun e he => ⟨(o2 _).2 ⟨e, he, .inl rfl⟩, (o2 _).2 ⟨e, he, .inr rfl⟩⟩)
    have HBX2 := Lib.hid hbx
    have HSz := Lib.hid hbx.size
    have HDef := Lib.hid hdef
    clear hm hsq hkx hbx hdef hxl q1 q2 q3 hbig hLl hLc hflat hfll hS
    gi_wp2_with fail
    refine ⟨trivial, rfl, (callsIn_wide.2 HRc.out).mono ?_⟩
    rintro e X2 ⟨v2, rfl, hown, hb⟩
    have HO2 := Lib.hid (OwnAt.mono hown HSz.out)
    have HB2 := Lib.hid (below_step HBX2.out hb)
    have HD2 := Lib.hid (show X2.heap[D]? = some (.deferred (some [])) from (hb.block D (Array.getElem?_eq_some_iff.1 HDef.out).1).trans HDef.out)
    clear hown hb
    gi_wp2
    refine leaves_marks (results_tmp rfl _ _) w.heap.size [D] _ (by simp) (fun E hE => by rw [List.mem_singleton.1 hE]; exact ⟨by omega, HD2.out⟩) fun W' hT => ⟨v2, _, rfl, hT.owns (by decide) HO2.out, HCan.out, HFl.out, HB2.out.trans (hT.below HB2.out.size)⟩
  case hstop =>
    rintro D cc pre1 X hD hF
    exact hF.elim
end Go.Proofs.Ytkpmgdhaollheaa
