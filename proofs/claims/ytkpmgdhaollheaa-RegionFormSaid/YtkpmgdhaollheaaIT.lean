/- Pieces: what the iterator over all pieces hands out. -/
import Derived.Test.YtkpmgdhaollheaaIS
import Derived.Test.YtkpmgdhaollheaaIB
import Derived.Sort.CutIn
import Derived.Deep.RegionHeld3
namespace Go.Proofs.Ytkpmgdhaollheaa
open Go.RowKit Go.Shelf

attribute [local go_sem] Oper.semAt_some

def encPc (x : Int × Rc) : Array Value := #[.int .i64 x.1, .agg #[.int .i64 x.2.l, .int .i64 x.2.b, .int .i64 x.2.r, .int .i64 x.2.h]]

/-- What the iterator keeps for itself between two rows. -/
structure PvAt (W wr : World) (ge N capE Be Bc Br : Nat) (E : List Ed) (cuts : List Int) (vc yv lv : Value) (bL o oa c : Nat) (R : List Ed) (vr : Value) (y : Int) : Prop where
  row : OwnAt wr Br 124 5 encE vr R
  oN : o ≤ N
  oa1 : oa ≤ N
  oa2 : o < N → oa = o
  cN : N - o ≤ c
  rl : R.length ≤ o
  ed : EdAt wr Be ge N capE E
  cu : OwnAt wr Bc 3 1 encI vc cuts
  yb : BoxAt wr W.heap.size #[yv] 106
  lb : BoxAt wr bL #[lv] 83
  sz : Br ≤ wr.heap.size
  inv : RowInv E R (E.drop o) y

theorem PvAt.keep {W wr w' : World} {ge N capE Be Bc Br : Nat} {E : List Ed} {cuts : List Int} {vc yv lv : Value} {bL o oa c : Nat} {R : List Ed} {vr : Value} {y : Int} (h : PvAt W wr ge N capE Be Bc Br E cuts vc yv lv bL o oa c R vr y) (hk : Keep UU wr w') : PvAt W w' ge N capE Be Bc Br E cuts vc yv lv bL o oa c R vr y :=
  ⟨hk.owns (by decide) h.row, h.oN, h.oa1, h.oa2, h.cN, h.rl, hk.owns (by decide) h.ed, hk.owns (by decide) h.cu, hk.block _ _ h.yb rfl, hk.block _ _ h.lb rfl, Nat.le_trans h.sz hk.size, h.inv⟩

/-- The marks of the loops so far. -/
def MkAt (W wr : World) (ds : List Nat) : Prop := ds.Nodup ∧ ∀ D ∈ ds, W.heap.size ≤ D ∧ wr.heap[D]? = some (.deferred (some []))
theorem MkAt.lt {W wr : World} {ds : List Nat} (h : MkAt W wr ds) : ∀ D ∈ ds, D < wr.heap.size := fun D hD => (Array.getElem?_eq_some_iff.1 (h.2 D hD).2).1
theorem MkAt.keepB {W wr w' : World} {ds : List Nat} (h : MkAt W wr ds) (hk : KeepB W.heap.size wr w') : MkAt W w' ds := ⟨h.1, fun D hD => ⟨(h.2 D hD).1, hk.block _ _ (h.2 D hD).1 (h.2 D hD).2 rfl⟩⟩
theorem MkAt.keep {W wr w' : World} {ds : List Nat} (h : MkAt W wr ds) (hk : Keep UU wr w') : MkAt W w' ds := h.keepB (.of_keep rfl hk)
theorem MkAt.turn {W X Y : World} {V : List TypeId} {B : Nat} {ds : List Nat} (h : MkAt W X ds) (hlt : ∀ D ∈ ds, D < B) (ht : Turn V B X Y) : MkAt W Y ds := ⟨h.1, fun D hD => ⟨(h.2 D hD).1, ht.block _ _ (h.2 D hD).2 (.inl (hlt D hD))⟩⟩
theorem Keep.turn {U V : List TypeId} {B : Nat} {w X Y : World} (h : Keep U w X) (hB : w.heap.size ≤ B) (ht : Turn V B X Y) : Keep U w Y := ⟨Nat.le_trans h.size ht.size, fun k o hk ho => ht.block k o (h.block k o hk ho) (.inl (Nat.lt_of_lt_of_le (Array.getElem?_eq_some_iff.1 hk).1 hB))⟩
theorem MkAt.cons {W wr : World} {ds : List Nat} {D : Nat} (h : MkAt W wr ds) (hD : ∀ E ∈ ds, E < D) (hW : W.heap.size ≤ D) (hd : wr.heap[D]? = some (.deferred (some []))) : MkAt W wr (D :: ds) :=
  ⟨List.nodup_cons.2 ⟨fun hm => Nat.lt_irrefl _ (hD D hm), h.1⟩, fun E hE => by
    rcases List.mem_cons.1 hE with rfl | hE
    · exact ⟨hW, hd⟩
    · exact h.2 E hE⟩

theorem edges_ok (Ls : List (List Rc)) : EdOk Ls.length (edgesFrom 0 Ls) := by
  intro e he
  obtain ⟨h1, h2, _⟩ := edgesFrom_mem he
  exact ⟨by simpa using h1, h2⟩

theorem cut_next {cuts : List Int} (hp : cuts.Pairwise (· < ·)) {k : Nat} (hk : k + 1 < cuts.length) {z : Int} (hz : z ∈ cuts) (h : cuts[k]! < z) : cuts[k + 1]! ≤ z := by
  obtain ⟨j, hj, rfl⟩ := List.mem_iff_getElem.1 hz
  rw [getElem!_pos cuts k (by omega)] at h
  rw [getElem!_pos cuts (k + 1) hk]
  rcases Nat.lt_trichotomy j (k + 1) with h1 | h1 | h1
  · rcases Nat.lt_or_ge j k with h2 | h2
    · have := List.pairwise_iff_getElem.1 hp j k hj (by omega) h2; omega
    · obtain rfl : j = k := by omega
      omega
  · subst h1; exact Int.le_refl _
  · have := List.pairwise_iff_getElem.1 hp (k + 1) j hk hj h1; omega

set_option maxHeartbeats 1000000 in
theorem spansOf_any (p : Option Addr) (m c : Nat) (n : Nat) (w : World) : Calls Try.prog 90 #[.slice p m c, .int .i64 n] w fun e w' => e = .returned (.func (.func 105) #[] #[.pointer (some ⟨w.heap.size + 1, 0, none⟩), .pointer (some ⟨w.heap.size, 0, none⟩)]) ∧ w' = (w.alloc (.cells #[.slice p m c] 107)).alloc (.cells #[.int .i64 n] 3) := by
  go_enter Try.func90, Try.ntmps90
  go_wp2
  go_ret
  exact ⟨rfl, rfl⟩

theorem twoB (w : World) (a b : Value) : BoxAt ((w.alloc (.cells #[a] 3)).alloc (.cells #[b] 3)).drew w.heap.size #[a] 3 ∧ BoxAt ((w.alloc (.cells #[a] 3)).alloc (.cells #[b] 3)).drew (w.heap.size + 1) #[b] 3 ∧ Below w.heap.size w ((w.alloc (.cells #[a] 3)).alloc (.cells #[b] 3)).drew := by
  refine ⟨(BoxAt.new w #[a] 3).alloc _, ?_, Below.drew (((Below.refl _ _).alloc (Nat.le_refl _) _).alloc (by simp) _)⟩
  have := BoxAt.new (w.alloc (.cells #[a] 3)) #[b] 3
  rw [World.size_alloc] at this
  exact this

/-- What may come of lists. -/
def PcsOf (Ls : List (List Rc)) (xs : List (Int × Rc)) : Prop := ∃ E : List Ed, E.Perm (edgesFrom 0 Ls) ∧ E.Pairwise loX ∧ xs = piecesG Ls.length [] E (cutsL E)

theorem rise_len {E R : List Ed} {o k N : Nat} {y : Int} (hN : E.length = N) (hR : R.length ≤ o) (hk : o + k ≤ N) (hr : riseRest (E.drop o) y = E.drop (o + k)) : (riseRow R (E.drop o) y).length ≤ o + k := by
  have h1 : (riseRow R (E.drop o) y).length ≤ (mergeL R ((E.drop o).takeWhile (atLo y))).length := List.length_filter_le _ _
  have h2 := (mergeL_perm R ((E.drop o).takeWhile (atLo y))).length_eq
  have h3 : (E.drop o).length = ((E.drop o).takeWhile (atLo y)).length + (riseRest (E.drop o) y).length := by
    unfold riseRest
    rw [← List.length_append, List.takeWhile_append_dropWhile]
  rw [hr, List.length_drop, List.length_drop] at h3
  rw [List.length_append] at h2
  omega

set_option maxHeartbeats 8000000 in
set_option maxRecDepth 100000 in
theorem pieces_stops (bL : Nat) (v : Value) (Ls : List (List Rc)) (w : World) (hbL : BoxAt w bL #[v] 83) (hL : ListsAt w v Ls) (ht : tot Ls ≤ 120000) (hL62 : Ls.length ≤ 62) :
    SeqX Try.prog 86 #[.pointer (some ⟨bL, 0, none⟩)] UU encPc (PcsOf Ls) (fun pre => ∃ xs, PcsOf Ls xs ∧ pre <+: xs) w := by
  intro l J Jx W hW hJ hJx hY h0
  obtain ⟨bLs, capL, rfl, hL'⟩ := id hL
  obtain ⟨n, hn⟩ : ∃ n, n = Ls.length := ⟨_, rfl⟩
  have b0 : W.cell? ⟨bL, 0, none⟩ = some (.slice (some ⟨bLs, 0, none⟩) n capL) := by rw [hn]; exact (hbL.below hW).cell (i := 0) rfl
  have hbLW : bL < W.heap.size := Nat.lt_of_lt_of_le hbL.lt hW.size
  have HY := Lib.hid hY
  have HJ := Lib.hid hJ
  have HJx := Lib.hid hJx
  have H0 := Lib.hid h0
  have HT0 := Lib.hid (Turn.of_below (U := UU) (B := W.heap.size) (below_one W (.cells #[.func (.yield l) #[] #[]] 106)))
  have HYb := Lib.hid (BoxAt.new W #[.func (.yield l) #[] #[]] 106)
  have HLb := Lib.hid ((hbL.below hW).alloc (.cells #[.func (.yield l) #[] #[]] 106))
  have H1 := Lib.hid (edgesOf_any (.slice (some ⟨bLs, 0, none⟩) Ls.length capL) Ls (W.alloc (.cells #[.func (.yield l) #[] #[]] 106)) ((ListsAt.below hL hW).below (below_one _ _)) ht hL62)
  have HLen := Lib.hid (edgesFrom_len Ls 0)
  have HEo := Lib.hid (edges_ok Ls)
  have hsz0 : (W.alloc (.cells #[.func (.yield l) #[] #[]] 106)).heap.size = W.heap.size + 1 := by simp
  rw [← hn] at H1 HLb HEo hL62
  have NL := Lib.hid hn
  have HTot := Lib.hid ht
  have c0 : (W.alloc (.cells #[.func (.yield l) #[] #[]] 106)).cell? ⟨bL, 0, none⟩ = some (.slice (some ⟨bLs, 0, none⟩) n capL) := HLb.out.cell (i := 0) rfl
  clear hbL hL hL' hn ht hY hJ hJx h0 hW b0
  refine callsIn_of_wp_marks Try.func86 rfl trivial ?_ rfl
  simp only [Try.ntmps86, List.size_toArray, List.length_cons, List.length_nil, Nat.reduceAdd, Nat.reduceSub, Array.replicate_succ, Array.replicate_zero, List.push_toArray, List.append_toArray, List.nil_append, List.cons_append]
  gi_wp2_with fail
  refine ⟨trivial, rfl, ?_⟩
  generalize hw0 : W.alloc (.cells #[.func (.yield l) #[] #[]] 106) = w0 at *
  clear hw0
  refine (callsIn_wide.2 H1.out).mono ?_
  rintro e w3 ⟨v7, rfl, E, hperm, hsort, h7, hb3⟩
  have hEl : E.length = 2 * tot Ls := by rw [hperm.length_eq]; exact HLen.out
  have HCu := Lib.hid (cutsOf_any v7 E w0.heap.size w3 h7 (by have := HTot.out; omega))
  have HE3 := Lib.hid h7
  have HB3 := Lib.hid hb3
  have HPerm := Lib.hid hperm
  have HSort := Lib.hid hsort
  have hE240 : E.length ≤ 240000 := by have := HTot.out; omega
  clear h7 hb3 hperm hsort H1 hEl
  gi_wp2_with fail
  refine ⟨trivial, rfl, ?_⟩
  refine (callsIn_wide.2 HCu.out).mono ?_
  rintro e w5 ⟨v8, rfl, hcu, hb5⟩
  obtain ⟨p8, c8, rfl⟩ := hcu.shape
  obtain ⟨o1, o2, o3⟩ := cutsL_ok E
  have HPw := Lib.hid o1
  have HMem := Lib.hid o2
  have HEd := Lib.hid (show EdOk n E from fun e he => HEo.out e (HPerm.out.mem_iff.1 he))
  have HPc := Lib.hid (show PcsOf Ls (piecesG n [] E (cutsL E)) from ⟨E, HPerm.out, HSort.out, by rw [← NL.out]⟩)
  generalize hcc : cutsL E = cuts at *
  obtain ⟨m, hm⟩ : ∃ m, m = cuts.length := ⟨_, rfl⟩
  rw [← hm] at o3 hcu ⊢
  have HM := Lib.hid hm
  have hm' : (m : Int) ≤ 480000 := by omega
  have hb05 := below_step HB3.out hb5
  have HJ5 := Lib.hid (HJ.out _ _ _ H0.out (HT0.out.trans (Turn.of_below hb05)))
  have HCU := Lib.hid hcu
  have HE5 := Lib.hid (HE3.out.kept hb5)
  have HYb5 := Lib.hid (HYb.out.below hb05)
  have HLb5 := Lib.hid (HLb.out.below hb05)
  have hsz5 := hb05.size
  clear hcu hb5 hb05 HCu HE3 HB3 o1 o2 H0 HT0 HYb HLb hm HPerm
  by_cases hm1 : m ≤ 1
  · have hcuts : piecesG n [] E cuts = [] := by
      have hl : cuts.length ≤ 1 := by rw [← HM.out]; exact hm1
      match cuts, hl with
      | [], _ => rfl
      | [_], _ => rfl
      | _ :: _ :: _, h => simp at h
    rw [hcuts] at HPc
    have hlt : ¬ (1 : Int) < (m : Int) := by omega
    gi_wp2
    gi_loopw [6] (fun ui wr => ui = .int .i64 1 ∧ w5 = wr) (fun _ _ => 0)
    case atStart => exact ⟨rfl, rfl⟩
    case round =>
      obtain ⟨rfl, rfl⟩ := hrel
      gi_wp2
      refine leaves_marks (results_none rfl _ _) W.heap.size [] _ List.nodup_nil (fun D hD => by cases hD) fun W' hT => ⟨⟨_, rfl⟩, .inl ⟨[], HPc.out, HJ.out _ _ _ HJ5.out (hT.mono (Nat.le_refl _) (fun t ht => by rw [List.mem_singleton.1 ht]; exact List.mem_cons_self))⟩⟩
  · have hN0 : 0 < E.length := by omega
    obtain ⟨N, hN⟩ : ∃ N, N = E.length := ⟨_, rfl⟩
    obtain ⟨ge, capE, rfl, hgB, hg5, hgc⟩ := HE5.out.form hN0
    rw [← hN] at HE5 hgc hE240 ⊢
    have HN := Lib.hid hN.symm
    have hm1' : 1 < m := by omega
    have HPv := Lib.hid (show PvAt W w5 ge N capE w0.heap.size w3.heap.size w5.heap.size E cuts (.slice p8 m c8) (.func (.yield l) #[] #[]) (.slice (some ⟨bLs, 0, none⟩) n capL) bL 0 0 capE [] (.slice none 0 0) cuts[0]! from
      ⟨OwnAt.nil .., Nat.zero_le _, Nat.zero_le _, fun _ => rfl, by rw [Nat.sub_zero]; exact hgc, Nat.zero_le _, HE5.out, HCU.out, HYb5.out, HLb5.out, Nat.le_refl _, ⟨⟨[], rfl, fun e he => (by cases he), fun e he => by
        have h1 := (HMem.out e.lo).2 ⟨e, he, .inl rfl⟩
        obtain ⟨j, hj, e1⟩ := List.mem_iff_getElem.1 h1
        rcases Nat.eq_zero_or_pos j with h | h
        · subst h; rw [getElem!_pos cuts 0 (by rw [← HM.out]; omega), e1]; exact Int.le_refl _
        · have := List.pairwise_iff_getElem.1 HPw.out 0 j (by omega) hj h
          rw [getElem!_pos cuts 0 (by omega)]; omega, List.Perm.nil⟩, List.Pairwise.nil⟩⟩)
    clear hN hgB HCU HYb5 HLb5 HE5 o3
    gi_wp2
    refine wpIn_loop (fun a' wr => ∃ (u3 u5 u6 u7 u8 u9 u10 u15 u16 u17 u18 u19 u20 u21 u22 u23 u24 u25 u26 u27 u28 u29 u30 u31 u32 u33 u34 u35 u36 u37 u38 u39 u40 u41 u42 u43 u44 u45 u46 u47 u48 u49 u50 u51 u52 u53 : Value) (df : List Deferred), (∃ (k o oa c : Nat) (R : List Ed) (pre : List (Int × Rc)) (ds : List Nat), u3 = .slice (some ⟨ge, oa * 5, none⟩) (N - o) c ∧ u6 = .int .i64 ((k : Int) + 1) ∧ df = marks ds ∧ k < m ∧
        PvAt W wr ge N capE w0.heap.size w3.heap.size w5.heap.size E cuts (.slice p8 m c8) (.func (.yield l) #[] #[]) (.slice (some ⟨bLs, 0, none⟩) n capL) bL o oa c R u5 cuts[k]! ∧ MkAt W wr ds ∧ J pre wr ∧ pre ++ piecesG n R (E.drop o) (cuts.drop k) = piecesG n [] E cuts) ∧ a' = { tmps := #[.func (.yield l) #[] #[], .pointer (some ⟨bL, 0, none⟩), .pointer (some ⟨W.heap.size, 0, none⟩), u3, .slice p8 m c8, u5, u6, u7, u8, u9, u10, .slice (some ⟨bLs, 0, none⟩) n capL, .slice (some ⟨ge, 0, none⟩) N capE, .slice (some ⟨ge, 0, none⟩) N capE, .slice p8 m c8, u15, u16, u17, u18, u19, u20, u21, u22, u23, u24, u25, u26, u27, u28, u29, u30, u31, u32, u33, u34, u35, u36, u37, u38, u39, u40, u41, u42, u43, u44, u45, u46, u47, u48, u49, u50, u51, u52, u53], defers := df })
      (fun a' _ => m - (intOf (a'.tmps.getD 6 undef)).toNat) ?start ?round
    case start =>
      (repeat apply Exists.intro)
      refine ⟨?_, rfl⟩
      exact ⟨0, 0, 0, capE, [], [], [], rfl, by simp, rfl, by omega, HPv.out, ⟨List.nodup_nil, fun D hD => by cases hD⟩, HJ5.out, by simp⟩
    case round =>
      intro a' wr hinv
      obtain ⟨u3, u5, u6, u7, u8, u9, u10, u15, u16, u17, u18, u19, u20, u21, u22, u23, u24, u25, u26, u27, u28, u29, u30, u31, u32, u33, u34, u35, u36, u37, u38, u39, u40, u41, u42, u43, u44, u45, u46, u47, u48, u49, u50, u51, u52, u53, df, ⟨k, o, oa, c, R, pre, ds, rfl, rfl, rfl, hkm, hpv, hmk, hJp, heq⟩, rfl⟩ := hinv
      try dsimp only
      have hk0 : (0 : Int) ≤ (k : Int) := by omega
      have hkB : (k : Int) ≤ 480000 := by omega
      by_cases hk1 : k + 1 < m
      · have hkc : k + 1 < cuts.length := by rw [← HM.out]; exact hk1
        have hcu := hpv.cu
        obtain ⟨g8, cap8, e8, _, hg8, _⟩ := hcu.form (by omega)
        rw [← HM.out] at e8
        cases e8
        have d0 := hcu.cell (fun _ => rfl) HM.out (show k < cuts.length by omega) (i := 0) rfl
        have d1 := hcu.cell (fun _ => rfl) HM.out hkc (i := 0) rfl
        simp only [Nat.mul_one, Nat.add_zero] at d0 d1
        have hk1' : (k : Int) + 1 < (m : Int) := by omega
        have hkm' : (k : Int) < (m : Int) := by omega
        have hy12 : cuts[k]! < cuts[k + 1]! := by
          rw [getElem!_pos cuts k (by omega), getElem!_pos cuts (k + 1) hkc]
          exact List.pairwise_iff_getElem.1 HPw.out k (k + 1) (by omega) hkc (by omega)
        have hri := rise_inv HSort.out hpv.inv
        have HNx := Lib.hid (hri.2.2 cuts[k + 1]! hy12 fun e he hl => cut_next HPw.out hkc ((HMem.out e.lo).2 ⟨e, he, .inl rfl⟩) hl)
        have HRi := Lib.hid hri
        have HEq := Lib.hid (show pre ++ ((piecesRow n (riseRow R (E.drop o) cuts[k]!)).map (fun p => (p.1, mkR cuts[k]! cuts[k + 1]! p.2)) ++ piecesG n (riseRow R (E.drop o) cuts[k]!) (riseRest (E.drop o) cuts[k]!) (cuts.drop (k + 1))) = piecesG n [] E cuts by
          rw [← heq]
          have e1 : cuts.drop k = cuts[k]! :: cuts[k + 1]! :: cuts.drop (k + 2) := by
            rw [List.drop_eq_getElem_cons (by omega), List.drop_eq_getElem_cons (by omega), getElem!_pos cuts k (by omega), getElem!_pos cuts (k + 1) (by omega)]
          have e2 : cuts.drop (k + 1) = cuts[k + 1]! :: cuts.drop (k + 2) := by
            rw [List.drop_eq_getElem_cons (by omega), getElem!_pos cuts (k + 1) (by omega)]
          rw [e1, e2, piecesG])
        have HPvr := Lib.hid hpv
        have HMk := Lib.hid hmk
        have HJp := Lib.hid hJp
        clear hri heq hpv hmk hJp hcu
        generalize hyy : cuts[k]! = y at *
        generalize hyy2 : cuts[k + 1]! = y2 at *
        have HYY := Lib.hid hyy2
        clear hyy hyy2
        gi_wp2
        have hw1 : IntKind.i64.wrap (k : Int) = (k : Int) := wrap_small k (by omega)
        have hw2 : IntKind.i64.wrap ((k : Int) + 1) = (k : Int) + 1 := by have := wrap_small (k + 1) (by omega); simpa using this
        have hk01 : (0 : Int) ≤ (k : Int) + 1 := by omega
        gi_cut [7, 8] from 21 (fun p q wx => ∃ bl bh, p = .pointer (some ⟨bl, 0, none⟩) ∧ q = .pointer (some ⟨bh, 0, none⟩) ∧ BoxAt wx bl #[.int .i64 y] 3 ∧ BoxAt wx bh #[.int .i64 y2] 3 ∧ Below wr.heap.size wr wx)
        case first =>
          refine wpIn_wide.2 ?_
          have KS := Lib.hid (fun (w' : World) (h : Below wr.heap.size wr w') => (⟨cell_keep h d0, cell_keep h d1⟩ : w'.cell? ⟨g8, k, none⟩ = some (.int .i64 y) ∧ w'.cell? ⟨g8, k + 1, none⟩ = some (.int .i64 y2)))
          refine wp_region_noPanic ?_
          go_region_held3 (fun w' => w'.cell? ⟨g8, k, none⟩ = some (.int .i64 y) ∧ w'.cell? ⟨g8, k + 1, none⟩ = some (.int .i64 y2)) (exact KS.out _ (by repeat (first | exact Below.refl _ _ | refine Below.drew ?_ | refine Below.setCell ?_ (by simp) _ | refine Below.alloc ?_ (by simp) _))) (fail)
          all_goals refine NoPanic.normal ?_
          all_goals go_wp2
          all_goals go_meet
          all_goals first | exact ⟨_, _, rfl, rfl, (twoB wr _ _).1, (twoB wr _ _).2.1, (twoB wr _ _).2.2⟩ | exact ⟨_, _, rfl, rfl, (twoB wr _ _).2.1, (twoB wr _ _).1, (twoB wr _ _).2.2⟩ | fail
        case rest =>
          obtain ⟨bl, bh, rfl, rfl, hbl, hbh, hbw⟩ := hcut
          have hp1 := HPvr.out.keep (Keep.of_below hbw)
          have hm1c := HMk.out.keep (Keep.of_below hbw)
          have hj1 := HJ.out _ _ _ HJp.out (Turn.of_below hbw)
          have hRs := rise_any u5 R w5.heap.size ge N capE w0.heap.size o oa c hp1.oa1 hp1.oa2 E y wc hp1.row hp1.sz hp1.ed HN.out hp1.oN hp1.cN hg5 hp1.rl hE240
          have HRs := Lib.hid hRs
          have x0 := hbl.cell (i := 0) rfl
          have HBl := Lib.hid hbl
          have HBh := Lib.hid hbh
          have HP1 := Lib.hid hp1
          have HM1 := Lib.hid hm1c
          have HJ1 := Lib.hid hj1
          have hszc := hp1.sz
          clear hRs hp1 hm1c hj1 hbl hbh hbw HPvr HMk HJp d0 d1
          gi_wp2_with fail
          refine ⟨trivial, rfl, ?_⟩
          refine (callsIn_wide.2 HRs.out).mono ?_
          rintro e w6 ⟨v6, k6, oa6, rfl, r1, r2, r3, r4, r5, ht6⟩
          have hed6 := ht6.low (fun g e => by cases e; exact hg5) HP1.out.ed
          have hcu6 := ht6.owns (by decide) HP1.out.cu
          have hyb6 := ht6.box (.inr (by decide)) HP1.out.yb
          have hlb6 := ht6.box (.inr (by decide)) HP1.out.lb
          have hbl6 := ht6.box (.inr (by decide)) HBl.out
          have hbh6 := ht6.box (.inr (by decide)) HBh.out
          have hW5 : W.heap.size ≤ w5.heap.size := by omega
          have hj6 := HJ.out _ _ _ HJ1.out (ht6.mono hW5 (fun t ht => by rw [List.mem_singleton.1 ht]; decide))
          have hmk6 : MkAt W w6 ds := ⟨HM1.out.1, fun D hD => ⟨(HM1.out.2 D hD).1, ht6.block _ _ (HM1.out.2 D hD).2 (.inr (by decide))⟩⟩
          have hlen6 := rise_len (E := E) (R := R) HN.out HP1.out.rl r1 r5
          have hinv6 := HNx.out
          rw [r5, ← HYY.out] at hinv6
          have hsz6 := ht6.size
          have HE6 := Lib.hid (show PvAt W w6 ge N capE w0.heap.size w3.heap.size w5.heap.size E cuts (.slice (some ⟨g8, 0, none⟩) m c8) (.func (.yield l) #[] #[]) (.slice (some ⟨bLs, 0, none⟩) n capL) bL (o + k6) oa6 (c - k6) (riseRow R (E.drop o) y) v6 cuts[k + 1]! from
            ⟨r4, r1, r2, r3, by have := HP1.out.cN; omega, hlen6, hed6, hcu6, hyb6, hlb6, by omega, hinv6⟩)
          have HEq6 := Lib.hid (show pre ++ ((piecesRow n (riseRow R (E.drop o) y)).map (fun p => (p.1, mkR y y2 p.2)) ++ piecesG n (riseRow R (E.drop o) y) (E.drop (o + k6)) (cuts.drop (k + 1))) = piecesG n [] E cuts by rw [← r5]; exact HEq.out)
          have HEd6 := Lib.hid (show EdOk n (riseRow R (E.drop o) y) from fun e he => HEd.out e (List.mem_filter.1 (HRi.out.2.1.mem_iff.1 he)).1)
          have HBl6 := Lib.hid hbl6
          have HBh6 := Lib.hid hbh6
          have HJ6 := Lib.hid hj6
          have HM6 := Lib.hid hmk6
          have hR240 : (riseRow R (E.drop o) y).length ≤ 240000 := by omega
          have z0 := hlb6.cell (i := 0) rfl
          obtain ⟨p6, c6, rfl⟩ := r4.shape
          clear r2 r3 r4 r5 ht6 hed6 hcu6 hyb6 hlb6 hbl6 hbh6 hj6 hmk6 hlen6 hinv6 HRs HBl HBh HP1 HM1 HJ1 HNx HEq HRi x0
          generalize hRR : riseRow R (E.drop o) y = R6 at *
          obtain ⟨m6, hm6⟩ : ∃ m6, m6 = R6.length := ⟨_, rfl⟩
          rw [← hm6] at HE6 hR240 ⊢
          have HM6l := Lib.hid hm6
          clear hm6 hRR
          gi_wp2_with fail
          refine ⟨trivial, rfl, ?_⟩
          refine (callsIn_wide.2 (spansOf_any p6 m6 c6 n w6)).mono ?_
          rintro e w7 ⟨rfl, rfl⟩
          have hb7 : Below w6.heap.size w6 ((w6.alloc (.cells #[.slice p6 m6 c6] 107)).alloc (.cells #[.int .i64 n] 3)) := ((Below.refl _ _).alloc (Nat.le_refl _) _).alloc (by simp) _
          have hbr := (BoxAt.new w6 #[.slice p6 m6 c6] 107).alloc (.cells #[.int .i64 n] 3)
          have hbn := BoxAt.new (w6.alloc (.cells #[.slice p6 m6 c6] 107)) #[.int .i64 n] 3
          rw [World.size_alloc] at hbn
          have HE7 := Lib.hid (HE6.out.keep (Keep.of_below hb7))
          have HBl7 := Lib.hid (HBl6.out.below hb7)
          have HBh7 := Lib.hid (HBh6.out.below hb7)
          have HJ7 := Lib.hid (HJ.out _ _ _ HJ6.out (Turn.of_below hb7))
          have HM7 := Lib.hid (HM6.out.keep (Keep.of_below hb7))
          have hsz7 := hb7.size
          clear HE6 HBl6 HBh6 HJ6 HM6 hb7 z0
          generalize (w6.alloc (.cells #[.slice p6 m6 c6] 107)).alloc (.cells #[.int .i64 n] 3) = w7 at *
          gi_wp2_with fail
          have hW7 : W.heap.size ≤ w7.heap.size := by omega
          refine range_X (gf := 105) (lb := #[.pointer (some ⟨w6.heap.size + 1, 0, none⟩), .pointer (some ⟨w6.heap.size, 0, none⟩)]) rfl (enters_of Try.func105 (by kernel_rfl) rfl) (U := UU) (by decide)
            (spans_stops (w6.heap.size + 1) w6.heap.size p6 c6 m6 R6 n w5.heap.size w7 hbn hbr HE7.out.row HM6l.out.symm HEd6.out hL62 hR240) (fun _ => rfl)
            (fun pre1 X => J (pre ++ pre1.map fun p => (p.1, mkR y y2 p.2)) X ∧ Keep UU w7 X)
            (fun cc pre1 X => cc = .ret ∧ Jx (pre ++ pre1.map fun p => (p.1, mkR y y2 p.2)) X ∧ MkAt W X ds)
            (fun s X Y hs ht => ⟨HJ.out _ _ _ hs.1 (ht.mono hW7 fun _ h => h), hs.2.turn (Nat.le_refl _) ht⟩)
            (fun cc s X Y hs ht => ⟨hs.1, HJx.out _ _ _ hs.2.1 (ht.mono hW7 fun _ h => h), hs.2.2.turn (fun D hD => HM7.out.lt D hD) ht⟩)
            ⟨by simpa using HJ7.out, Keep.refl _ _⟩ ?hround ?hdone ?hstop
          case hround =>
            rintro l1 pre1 ⟨xs, xl, xr⟩ X ⟨hJX, hKX⟩ hsp hl1 hl2
            have HSp := Lib.hid hsp
            have HSb := Lib.hid (BoxAt.new X #[.int .i64 xl, .int .i64 xr] 116)
            clear hJX hKX hsp
            simp only [encSp]
            gi_wp2
            refine ⟨below_one X _, fun W2 hg2 hs2 hI2 => ?_⟩
            have hsb2 : BoxAt W2 X.heap.size #[.int .i64 xl, .int .i64 xr] 116 := (hg2.block _ (by simp) (by simp; omega)).trans HSb.out
            obtain ⟨hJ2, hK2⟩ := hI2
            have y0 : W2.cell? ⟨W.heap.size, 0, none⟩ = some (.func (.yield l) #[] #[]) := BoxAt.cell (hK2.block _ _ HE7.out.yb rfl) (i := 0) rfl
            have s0 := hsb2.cell (i := 0) rfl
            have s1 := hsb2.cell (i := 1) rfl
            have l0 : W2.cell? ⟨bl, 0, none⟩ = some (.int .i64 y) := BoxAt.cell (hK2.block _ _ HBl7.out rfl) (i := 0) rfl
            have g0 : W2.cell? ⟨bh, 0, none⟩ = some (.int .i64 y2) := BoxAt.cell (hK2.block _ _ HBh7.out rfl) (i := 0) rfl
            obtain ⟨fn, tmps, assign, body, hy, hRd⟩ := HY.out (pre ++ pre1.map fun p => (p.1, mkR y y2 p.2)) (xs, mkR y y2 (xl, xr)) W2 hJ2 ⟨_, HPc.out, by
              obtain ⟨t, ht⟩ := HSp.out
              refine ⟨t.map (fun p => (p.1, mkR y y2 p.2)) ++ piecesG n R6 (E.drop (o + k6)) (cuts.drop (k + 1)), ?_⟩
              rw [← HEq6.out, ← ht]
              simp⟩
            simp only [encPc, mkR] at hy
            have HK2 := Lib.hid hK2
            clear hJ2 hK2 hg2 hs2 hsb2
            gi_wp2
            refine ⟨rfl, (RoundIn.inRound (m := l1) hRd).mono ?_⟩
            rintro e W3 (⟨rfl, hJ3, hk3⟩ | ⟨rfl, hJx3, hkb⟩)
            · have H3 := Lib.hid hJ3
              have K3 := Lib.hid hk3
              clear hJ3 hk3
              gi_wp2
              exact ⟨K3.out, by rw [List.map_append, ← List.append_assoc]; exact H3.out, HK2.out.trans K3.out⟩
            · have H3 := Lib.hid hJx3
              have K3 := Lib.hid hkb
              clear hJx3 hkb
              gi_wp2
              exact ⟨K3.out.mono hW7, rfl, by rw [List.map_append, ← List.append_assoc]; exact H3.out, (HM7.out.keep HK2.out).keepB K3.out⟩
          case hdone =>
            rintro D xs X hD rfl ⟨hJX, hKX⟩ hdef
            have HPX := Lib.hid (HE7.out.keep hKX)
            have HMX := Lib.hid ((HM7.out.keep hKX).cons (fun E hE => Nat.lt_of_lt_of_le (HM7.out.lt E hE) hD) (Nat.le_trans hW7 hD) hdef)
            have HJX := Lib.hid hJX
            clear hJX hKX hdef
            gi_wp2
            refine ⟨?rel, ?measure⟩
            case rel =>
              (repeat apply Exists.intro)
              refine ⟨?_, rfl⟩
              exact ⟨k + 1, o + k6, oa6, c - k6, R6, pre ++ (piecesRow n R6).map (fun p => (p.1, mkR y y2 p.2)), D :: ds, rfl, by simp, rfl, by omega, HPX.out, HMX.out, HJX.out, by rw [List.append_assoc]; exact HEq6.out⟩
            case measure => simp [intOf]; omega
          case hstop =>
            rintro D cc pre1 X hD ⟨rfl, hJX, hMX⟩ hdef
            have HMX := Lib.hid (hMX.cons (fun E hE => Nat.lt_of_lt_of_le (HM7.out.lt E hE) hD) (Nat.le_trans hW7 hD) hdef)
            have HJX := Lib.hid hJX
            clear hJX hMX hdef
            gi_wp2
            refine leaves_marks (results_none rfl _ _) W.heap.size (D :: ds) _ HMX.out.1 HMX.out.2 fun W' hT => ⟨⟨_, rfl⟩, .inr ⟨_, HJx.out _ _ _ HJX.out (hT.mono (Nat.le_refl _) (fun t ht => by rw [List.mem_singleton.1 ht]; exact List.mem_cons_self))⟩⟩
      · have hall : pre = piecesG n [] E cuts := by
          rw [← heq]
          have hl : (cuts.drop k).length ≤ 1 := by rw [List.length_drop, ← HM.out]; omega
          have : piecesG n R (E.drop o) (cuts.drop k) = [] := by
            match cuts.drop k, hl with
            | [], _ => simp [piecesG]
            | [_], _ => simp [piecesG]
            | _ :: _ :: _, h => simp at h
          rw [this, List.append_nil]
        have HAll := Lib.hid hall
        have HMk := Lib.hid hmk
        have HJp := Lib.hid hJp
        have hk1' : ¬ (k : Int) + 1 < (m : Int) := by omega
        clear hall heq hpv hmk hJp
        gi_wp2
        refine leaves_marks (results_none rfl _ _) W.heap.size ds _ HMk.out.1 HMk.out.2 fun W' hT => ⟨⟨_, rfl⟩, .inl ⟨pre, by rw [HAll.out]; exact HPc.out, HJ.out _ _ _ HJp.out (hT.mono (Nat.le_refl _) (fun t ht => by rw [List.mem_singleton.1 ht]; exact List.mem_cons_self))⟩⟩
end Go.Proofs.Ytkpmgdhaollheaa
