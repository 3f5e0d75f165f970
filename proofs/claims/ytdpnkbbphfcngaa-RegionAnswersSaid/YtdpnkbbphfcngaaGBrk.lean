/- Tape.One, Tape.Broken. -/
import Derived.Test.YtdpnkbbphfcngaaGFormW
import Derived.Test.YtdpnkbbphfcngaaGApp
import Derived.Test.YtdpnkbbphfcngaaGGood
import Derived.Deep.RegionHeld3
namespace Go.Proofs.Ytdpnkbbphfcngaa
open Go.RowKit Go.Shelf

set_option maxHeartbeats 1000000 in
set_option maxRecDepth 100000 in
theorem one_any (w : World) (tb : Nat) (h : Tape w tb) :
    Calls Try.prog 44 #[.pointer (some ⟨tb, 0, none⟩), .int .i64 6] w fun e w' => ∃ t : Bool, e = .returned (.bool t) ∧ w.grownBy w' (some tb) ∧ Tape w' tb := by
  have hN := next_any w tb h 6 (by omega)
  clear h
  go_enter Try.func44, Try.ntmps44
  go_wp2_with fail
  refine hN.mono ?_
  rintro e w1 ⟨x, rfl, _, hg, ht⟩
  have HG := Lib.hid hg
  have HT := Lib.hid ht
  clear hN hg ht
  go_wp2
  go_ret
  exact ⟨_, rfl, HG.out, HT.out⟩

theorem set_cell (z : Int) : ∀ (L : List Rc) (j : Nat), j < L.length * 4 → ∃ L' : List Rc, L'.length = L.length ∧ (L.flatMap encR).set j (.int .i64 z) = L'.flatMap encR
  | [], j, h => by simp at h
  | r :: L, j, h => by
    by_cases hj : j < 4
    · have h4 : j = 0 ∨ j = 1 ∨ j = 2 ∨ j = 3 := by omega
      rcases h4 with rfl | rfl | rfl | rfl
      · exact ⟨⟨z, r.b, r.r, r.h⟩ :: L, rfl, rfl⟩
      · exact ⟨⟨r.l, z, r.r, r.h⟩ :: L, rfl, rfl⟩
      · exact ⟨⟨r.l, r.b, z, r.h⟩ :: L, rfl, rfl⟩
      · exact ⟨⟨r.l, r.b, r.r, z⟩ :: L, rfl, rfl⟩
    · obtain ⟨i, rfl⟩ : ∃ i, j = i + 4 := ⟨j - 4, by omega⟩
      obtain ⟨L', h1, h2⟩ := set_cell z L i (by rw [List.length_cons] at h; omega)
      refine ⟨r :: L', by rw [List.length_cons, List.length_cons, h1], ?_⟩
      rw [List.flatMap_cons, List.flatMap_cons, ← h2]
      rfl

theorem own_set1 {w : World} {B g lp cap : Nat} {L : List Rc} (h : OwnAt w B 44 4 encR (.slice (some ⟨g, 0, none⟩) lp cap) L) (hl : L.length = lp) {j : Nat} (hj : j < L.length * 4) (z : Int) :
    ∃ L' : List Rc, L'.length = lp ∧ OwnAt (w.setCell ⟨g, j, none⟩ (.int .i64 z)) B 44 4 encR (.slice (some ⟨g, 0, none⟩) lp cap) L' := by
  subst hl
  obtain ⟨L', h1, h2⟩ := set_cell z L j hj
  refine ⟨L', h1, ?_⟩
  unfold OwnAt at h ⊢
  rw [← h2, h1]
  exact (h.stored j _).1

theorem BoxAt.drew' {w : World} {b : Nat} {cs : Array Value} {t : TypeId} (h : BoxAt w b cs t) : BoxAt w.drew b cs t := h
theorem gr_drew' {w x : World} {row : Option Nat} (h : w.grownBy x row) : w.grownBy x.drew row := ⟨h.os, h.tape, h.output, h.size, h.block⟩
theorem Tape.drew' {w : World} {tb : Nat} (h : Tape w tb) : Tape w.drew tb := h.grown (row := none) ⟨rfl, rfl, rfl, Nat.le_refl _, fun _ _ _ => rfl⟩ (by simp)

theorem made0R {B : Nat} (w : World) (hB : B ≤ w.heap.size) : (w.alloc (.cells #[] 44)).ownsRow B 44 4 (.slice (some ⟨w.heap.size, 0, none⟩) 0 0) 0 [] :=
  World.ownsRow_made w #[] 0 hB (Nat.zero_le _) rfl

/-- What comes back from Tape.Broken: some list of rectangles. -/
structure Brkn (w w' : World) (tb : Nat) (v : Value) (l : List Rc) : Prop where
  at_ : RectsAt w' v l
  new : ∀ k, v.ownBlock = some k → w.heap.size ≤ k
  len : l.length ≤ 41
  gr : w.grownBy w' (some tb)
  tape : Tape w' tb

set_option maxHeartbeats 8000000 in
set_option maxRecDepth 100000 in
theorem broken_any (w : World) (tb : Nat) (h : Tape w tb) :
    Calls Try.prog 14 #[.pointer (some ⟨tb, 0, none⟩), .int .i64 9, .int .i64 4] w fun e w' => ∃ v l, e = .returned (.agg #[v]) ∧ Brkn w w' tb v l := by
  obtain ⟨i0, hi, hz0, hz1, hz2⟩ := info_parts info_rect
  have hlt := h.lt
  have hR := region_any (w.alloc (.cells #[.slice none 0 0] 24)) tb (h.alloc _) 9 (by omega) (by omega) 4 (by omega)
  clear h
  go_enter Try.func14, Try.ntmps14
  go_wp2_with fail
  refine hR.mono ?_
  rintro e w1 ⟨va, a, rfl, hD⟩
  obtain ⟨_, _, hla⟩ := drawn_ok hD (by omega) (by omega)
  have hbx := (BoxAt.new w #[.slice none 0 0] 24).but hD.gr (by simp; omega)
  have hG := gr_trans (World.grownBy_alloc w (.cells #[.slice none 0 0] 24) (some tb)) hD.gr
  have hnew : ∀ k, va.ownBlock = some k → w.heap.size + 1 ≤ k := fun k hk => by have := hD.new k hk; simpa using this
  have hsz1 : w.heap.size + 1 ≤ w1.heap.size := by have := hD.gr.size; simpa using this
  have T1 := Lib.hid hD.tape
  have R1 := Lib.hid hD.at_
  have X1 := Lib.hid hbx
  have G1 := Lib.hid hG
  have NW := Lib.hid hnew
  have LA := Lib.hid hla
  clear hR hD hbx hG hnew hla
  obtain ⟨pa, ca, rfl⟩ := R1.out.shape
  -- the box of the region
  have X2 := Lib.hid (X1.out.alloc (.cells #[.slice pa a.length ca] 24))
  have Y2 := Lib.hid (BoxAt.new w1 #[.slice pa a.length ca] 24)
  have T2 := Lib.hid (T1.out.alloc (.cells #[.slice pa a.length ca] 24))
  have R2 := Lib.hid (R1.out.below ((Below.refl _ _).alloc (Nat.le_refl _) (.cells #[.slice pa a.length ca] 24)))
  have G2 := Lib.hid (gr_trans G1.out (World.grownBy_alloc w1 (.cells #[.slice pa a.length ca] 24) (some tb)))
  have S2 := Lib.hid (show (w1.alloc (.cells #[.slice pa a.length ca] 24)).heap.size = w1.heap.size + 1 by simp)
  have y0 := Y2.out.cell (i := 0) rfl
  have f0 := (BoxAt.new w1 #[.slice none 0 0] 24).free 0
  have x0 := X2.out.cell (i := 0) rfl
  have xf := X2.out.free 0
  clear T1 R1 X1 G1
  have RET := Lib.hid (show ∀ (W : World) (l : List Rc) (p : Option Addr) (c : Nat), BoxAt W w.heap.size #[.slice none 0 0] 24 → RectsAt W (.slice p l.length c) l → (∀ k, (Value.slice p l.length c).ownBlock = some k → w.heap.size + 1 ≤ k) → l.length ≤ 41 → w.grownBy W (some tb) → Tape W tb →
      Brkn w (W.setCell ⟨w.heap.size, 0, none⟩ (.slice p l.length c)) tb (.slice p l.length c) l from fun W l p c _ hr hn hl hg ht =>
    ⟨hr.set (fun k hk => by have := hn k hk; omega) _ _, fun k hk => by have := hn k hk; omega, hl, gr_setNew hg (Nat.le_refl _) _ _, ht.set hlt _ _⟩)
  by_cases h0 : a.length = 0
  · obtain rfl : a = [] := List.length_eq_zero_iff.1 h0
    simp only [List.length_nil] at *
    go_wp2
    exact bodyPost_ret (ret_reg rfl rfl (X2.out.set 0 (.slice pa 0 ca))) rfl ⟨_, [], rfl, RET.out _ [] _ _ X2.out R2.out NW.out (by simp) G2.out T2.out⟩
  · have hn0 : ¬ ((a.length : Int) = 0) := by omega
    have ha0 : 0 < a.length := by omega
    have hb0 : ((a.length : Int) == 0) = false := beq_eq_false_iff_ne.2 hn0
    have hO := one_any _ tb T2.out
    clear T2
    go_wp2_with fail
    generalize hw2 : w1.alloc (.cells #[.slice pa a.length ca] 24) = w2 at *
    clear hw2
    refine hO.mono ?_
    rintro e w3 ⟨t, rfl, hg3, ht3⟩
    have T3 := Lib.hid ht3
    have X3 := Lib.hid (X2.out.but hg3 (by simp; omega))
    have Y3 := Lib.hid (Y2.out.but hg3 (by simp; omega))
    have R3 := Lib.hid (R2.out.but hg3 (fun k hk e => by have := NW.out k hk; have e' : tb = k := (by simpa using e); omega))
    have G3 := Lib.hid (gr_trans G2.out hg3)
    have S3 := Lib.hid (show w1.heap.size + 1 ≤ w3.heap.size by have := hg3.size; have := S2.out; omega)
    clear hO hg3 ht3 X2 Y2 R2 G2 S2 y0 f0 x0 xf
    have y0 := Y3.out.cell (i := 0) rfl
    have x0 := X3.out.cell (i := 0) rfl
    have xf := X3.out.free 0
    cases t
    · go_wp2
      exact bodyPost_ret (ret_reg rfl rfl (X3.out.set 0 (.slice pa a.length ca))) rfl ⟨_, a, rfl, RET.out _ _ _ _ X3.out R3.out NW.out (by have := LA.out; omega) G3.out T3.out⟩
    · have hla := LA.out
      have hm0 := made0R (B := w.heap.size + 1) w3 (by have := S3.out; omega)
      have Ra4 := Lib.hid (R3.out.below ((Below.refl _ _).alloc (Nat.le_refl _) (.cells #[] 44)))
      have y1 := (Y3.out.alloc (.cells #[] 44)).cell (i := 0) rfl
      go_wp2_with (first | (at_builtin; refine wpList_append_rects _ rfl _ _ 22 rfl (w.heap.size + 1) 44 i0 _ 32 Try.underlying22 hi hz0 hz1 hz2 rfl _ _ _ rfl hm0 _ a rfl Ra4.out ?c3 ?c4 ?c5 ?_))
      case c3 => unfold maxLen; omega
      case c4 => omega
      case c5 => have := S3.out; simp; omega
      intro v5 w5 hown5 hgrow
      have O5 := Lib.hid (show OwnAt w5 (w.heap.size + 1) 44 4 encR v5 a from by
        unfold OwnAt
        simpa using hown5)
      have hrow := World.ownsRow.lt hm0
      have g35 : w3.grownBy w5 none := gr_and (World.grownBy_alloc w3 (.cells #[] 44) none) hgrow (fun j e => .inl (by have e' : w3.heap.size = j := (by simpa [Value.ownBlock] using e); omega))
      have X5 := Lib.hid (X3.out.but g35 (by simp))
      have T5 := Lib.hid (T3.out.grown g35 (by simp))
      have G5 := Lib.hid (gr_and G3.out g35 (by simp))
      clear hown5 hgrow hrow g35 y0 y1 x0 xf hm0 X3 Y3 R3 G3 T3 Ra4
      obtain ⟨p5, c5, rfl⟩ := O5.out.shape
      have hN := next_any w5 tb T5.out (a.length : Int) (by omega)
      go_wp2_with fail
      refine hN.mono ?_
      rintro e w6 ⟨x, rfl, ⟨hx0, hx1, _⟩, hg6, ht6⟩
      have hx2 := hx1 (by omega)
      obtain ⟨k, rfl⟩ := Int.eq_ofNat_of_zero_le hx0
      have hN2 := next_any w6 tb ht6 5 (by omega)
      clear hN
      go_wp2_with fail
      refine hN2.mono ?_
      rintro e w7 ⟨y, rfl, ⟨hy0, hy1, _⟩, hg7, ht7⟩
      have hy2 := hy1 (by omega)
      have g57 := gr_trans hg6 hg7
      have ne5 : some tb ≠ (Value.slice p5 a.length c5).ownBlock := fun e => by have := ownsRow_ge O5.out tb e.symm; omega
      have O7 := Lib.hid (show OwnAt w7 (w.heap.size + 1) 44 4 encR (.slice p5 a.length c5) a from World.ownsRow.kept O5.out g57 (by
        rcases p5 with _ | ⟨b7, o7, s7⟩
        · exact .inl rfl
        · exact .inr fun e => ne5 e.symm))
      have X7 := Lib.hid (X5.out.but g57 (by simp; omega))
      have G7 := Lib.hid (gr_trans G5.out g57)
      have T7 := Lib.hid ht7
      have SZ := Lib.hid (show w.heap.size + 1 ≤ w7.heap.size by have := g57.size; have := G5.out.size; have := X7.out.lt; omega)
      clear hN2 hg6 ht6 hg7 ht7 g57 ne5 O5 X5 T5 G5 hx1 hy1
      obtain ⟨g, cc, e1, hgB, hgl, hlc⟩ := O7.out.form ha0
      cases e1
      have HGB := Lib.hid hgB
      have HGL := Lib.hid hgl
      have hbox : ∃ cur, BoxAt w7 g cur 44 := by
        rcases O7.out.2 with ⟨e, _⟩ | ⟨g', cap', cur, e, _, hg, _⟩
        · cases e
        · cases e
          exact ⟨cur, hg⟩
      obtain ⟨cur, hbox⟩ := hbox
      have HBX := Lib.hid hbox
      have hka : k < a.length := by omega
      have a0 := O7.out.cell encR_len rfl hka (i := 0) rfl
      have a1 := O7.out.cell encR_len rfl hka (i := 1) rfl
      have a2 := O7.out.cell encR_len rfl hka (i := 2) rfl
      have a3 := O7.out.cell encR_len rfl hka (i := 3) rfl
      simp only [Nat.add_zero] at a0
      have fk0 := hbox.free (k * 4)
      have fk2 := hbox.free (k * 4 + 2)
      have fk3 := hbox.free (k * 4 + 3)
      have LEN := Lib.hid (show k * 4 + 3 < a.length * 4 by omega)
      have neg : g ≠ w.heap.size := by omega
      have FIN := Lib.hid (show ∀ (j : Nat) (z : Int), j < a.length * 4 → ∃ L', Brkn w ((w7.setCell ⟨g, j, none⟩ (.int .i64 z)).setCell ⟨w.heap.size, 0, none⟩ (.slice (some ⟨g, 0, none⟩) a.length c5)) tb (.slice (some ⟨g, 0, none⟩) a.length c5) L' ∧ BoxAt (w7.setCell ⟨g, j, none⟩ (.int .i64 z)) w.heap.size #[.slice none 0 0] 24 from fun j z hj => by
        obtain ⟨L', hl, hO⟩ := own_set1 O7.out rfl hj z
        have hX := X7.out.other (b' := g) (j := j) (by omega) (.int .i64 z)
        have hR := hO.rects
        rw [← hl] at hR hO ⊢
        refine ⟨L', RET.out _ L' _ _ hX hR (fun k hk => ownsRow_ge hO k hk) (by rw [hl]; have := LA.out; omega) ?_ (T7.out.set (by omega) _ _), hX⟩
        exact gr_setNew G7.out (by omega) _ _)
      have x0 := X7.out.cell (i := 0) rfl
      have xf := X7.out.free 0
      have hki : (k : Int) < (a.length : Int) := by omega
      have hk0 : (0 : Int) ≤ (k : Int) := by omega
      have hal : (0 : Int) < (a.length : Int) := by omega
      have b0 := O7.out.cell encR_len rfl ha0 (i := 0) rfl
      have b1 := O7.out.cell encR_len rfl ha0 (i := 1) rfl
      have b2 := O7.out.cell encR_len rfl ha0 (i := 2) rfl
      have b3 := O7.out.cell encR_len rfl ha0 (i := 3) rfl
      simp only [Nat.zero_mul, Nat.zero_add, Nat.add_zero] at b0 b1 b2 b3
      have fz0 := hbox.free 0
      have fz1 := hbox.free 1
      have fz2 := hbox.free 2
      have fz3 := hbox.free 3
      have fk1 := hbox.free (k * 4 + 1)
      have HKA := Lib.hid hka
      have HA0 := Lib.hid ha0
      have NEG := Lib.hid neg
      have hs := own_swap O7.out rfl (i := 0) (k := k) ha0 hka a[k]! a[0]!
      simp only [Nat.zero_mul, Nat.zero_add] at hs
      have HSW := Lib.hid hs
      clear hbox hgB hgl hs hka
      generalize hrk : a[k]! = r at *
      generalize hrz : a[0]! = s at *
      have hy5 : y = 0 ∨ y = 1 ∨ y = 2 ∨ y = 3 ∨ y = 4 := by omega
      clear hn0 h0 hb0 hx0 hx2 hy0 hy2 hsz1
      rcases hy5 with rfl | rfl | rfl | rfl | rfl
      · clear b0 b1 b2 b3 fz0 fz1 fz2 fz3
        go_wp2
        obtain ⟨L', hB, hX⟩ := FIN.out (k * 4 + 2) (wrap64 (r.r + 1)) (by have := LEN.out; omega)
        exact bodyPost_ret (ret_reg rfl rfl (hX.set 0 _)) rfl ⟨_, L', rfl, hB⟩
      · clear b0 b1 b2 b3 fz0 fz1 fz2 fz3
        go_wp2
        obtain ⟨L', hB, hX⟩ := FIN.out (k * 4) (-1) (by have := LEN.out; omega)
        exact bodyPost_ret (ret_reg rfl rfl (hX.set 0 _)) rfl ⟨_, L', rfl, hB⟩
      · clear b0 b1 b2 b3 fz0 fz1 fz2 fz3 fk0 fk1 fk2 fk3 xf x0
        have hxs := O7.out
        unfold OwnAt at hxs
        have hl33 : a.length ≤ 33 := by omega
        generalize hle : a.length = len at *
        generalize hxe : a.flatMap encR = xs at hxs
        go_wp2_with (first | (at_builtin; refine wpList_append_own _ rfl _ _ 22 rfl (w.heap.size + 1) 44 i0 _ 4 32 Try.underlying22 hi hz0 hz1 hz2 rfl (by decide) _ _ _ rfl (hxs.alloc _) ⟨w7.heap.size, 0, none⟩ 1 1 [.int .i64 r.l, .int .i64 r.b, .int .i64 r.r, .int .i64 r.h] rfl rfl ?c1 ?c2 ?c3 ?c4 ?c5 ?_))
        case c1 => exact news_at (cs := #[.int .i64 r.l, .int .i64 r.b, .int .i64 r.r, .int .i64 r.h]) rfl
        case c2 => exact fun u hu => by simp at hu; rcases hu with rfl | rfl | rfl | rfl <;> rfl
        case c3 => unfold maxLen; omega
        case c4 => omega
        case c5 => have := SZ.out; simp; omega
        intro v8 w8 hown8 hgrow _
        subst hxe
        have hge := ownsRow_ge hxs
        have X8 := Lib.hid ((X7.out.alloc (.cells #[.int .i64 r.l, .int .i64 r.b, .int .i64 r.r, .int .i64 r.h] 44)).grown (by decide) hgrow (hxs.alloc _))
        have G8 := Lib.hid (gr_and (gr_trans G7.out (World.grownBy_alloc w7 (.cells #[.int .i64 r.l, .int .i64 r.b, .int .i64 r.r, .int .i64 r.h] 44) (some tb))) hgrow (fun j e => .inl (by have := hge j e; omega)))
        have T8 := Lib.hid ((T7.out.alloc (.cells #[.int .i64 r.l, .int .i64 r.b, .int .i64 r.r, .int .i64 r.h] 44)).grown hgrow (fun j e => by have := hge j e; omega))
        have O8 := Lib.hid (OwnAt.snoc (l := a) (m := [r]) (n := 1) (enc := encR) rfl (by rw [hle]; exact hown8))
        have LL := Lib.hid (show (a ++ [r]).length ≤ 41 by rw [List.length_append, hle]; simp; omega)
        clear hxs hown8 hgrow hge
        obtain ⟨p8, c8, rfl⟩ := O8.out.shape
        have x0 := X8.out.cell (i := 0) rfl
        have xf := X8.out.free 0
        have RO := Lib.hid O8.out.rects
        have RR := RET.out _ (a ++ [r]) _ _ X8.out RO.out (fun k hk => ownsRow_ge O8.out k hk) LL.out G8.out T8.out
        have el : (a ++ [r]).length = len + 1 := by rw [List.length_append, hle]; rfl
        rw [el] at RR
        have HRR := Lib.hid RR
        clear RR el
        go_wp2
        exact bodyPost_ret (ret_reg rfl rfl (X8.out.set 0 _)) rfl ⟨_, a ++ [r], rfl, HRR.out⟩
      · have XS := Lib.hid (fun (j1 j2 j3 j4 j5 j6 j7 j8 : Nat) (u1 u2 u3 u4 u5 u6 u7 u8 : Value) => (((((((X7.out.other (b' := g) (j := j1) (by have := NEG.out; omega) u1).other (b' := g) (j := j2) (by have := NEG.out; omega) u2).other (b' := g) (j := j3) (by have := NEG.out; omega) u3).other (b' := g) (j := j4) (by have := NEG.out; omega) u4).other (b' := g) (j := j5) (by have := NEG.out; omega) u5).other (b' := g) (j := j6) (by have := NEG.out; omega) u6).other (b' := g) (j := j7) (by have := NEG.out; omega) u7).other (b' := g) (j := j8) (by have := NEG.out; omega) u8)
        have TS := Lib.hid (fun (j1 j2 j3 j4 j5 j6 j7 j8 : Nat) (u1 u2 u3 u4 u5 u6 u7 u8 : Value) => (((((((T7.out.set (b := g) (by have := HGB.out; omega) j1 u1).set (b := g) (by have := HGB.out; omega) j2 u2).set (b := g) (by have := HGB.out; omega) j3 u3).set (b := g) (by have := HGB.out; omega) j4 u4).set (b := g) (by have := HGB.out; omega) j5 u5).set (b := g) (by have := HGB.out; omega) j6 u6).set (b := g) (by have := HGB.out; omega) j7 u7).set (b := g) (by have := HGB.out; omega) j8 u8)
        have GS := Lib.hid (fun (j1 j2 j3 j4 j5 j6 j7 j8 : Nat) (u1 u2 u3 u4 u5 u6 u7 u8 : Value) => gr_setNew (gr_setNew (gr_setNew (gr_setNew (gr_setNew (gr_setNew (gr_setNew (gr_setNew G7.out (b := g) (by have := HGB.out; omega) j1 u1) (b := g) (by have := HGB.out; omega) j2 u2) (b := g) (by have := HGB.out; omega) j3 u3) (b := g) (by have := HGB.out; omega) j4 u4) (b := g) (by have := HGB.out; omega) j5 u5) (b := g) (by have := HGB.out; omega) j6 u6) (b := g) (by have := HGB.out; omega) j7 u7) (b := g) (by have := HGB.out; omega) j8 u8)
        by_cases hkz : k = 0
        · subst hkz
          simp only [Nat.zero_mul, Nat.zero_add] at HSW
          obtain rfl : s = r := hrz.symm.trans hrk
          clear a0 a1 a2 a3 fk0 fk1 fk2 fk3
          go_wp2
          refine wp_region_noPanic ?_
          go_big_region
          refine NoPanic.normal ?_
          have X9 : BoxAt (((((((((w7.setCell ⟨g, 0, none⟩ (.int .i64 s.l)).setCell ⟨g, 1, none⟩ (.int .i64 s.b)).setCell ⟨g, 2, none⟩ (.int .i64 s.r)).setCell ⟨g, 3, none⟩ (.int .i64 s.h)).setCell ⟨g, 0, none⟩ (.int .i64 s.l)).setCell ⟨g, 1, none⟩ (.int .i64 s.b)).setCell ⟨g, 2, none⟩ (.int .i64 s.r)).setCell ⟨g, 3, none⟩ (.int .i64 s.h)).drew) w.heap.size #[.slice none 0 0] 24 := BoxAt.drew' (XS.out 0 1 2 3 0 1 2 3 (.int .i64 s.l) (.int .i64 s.b) (.int .i64 s.r) (.int .i64 s.h) (.int .i64 s.l) (.int .i64 s.b) (.int .i64 s.r) (.int .i64 s.h))
          have T9 : Tape (((((((((w7.setCell ⟨g, 0, none⟩ (.int .i64 s.l)).setCell ⟨g, 1, none⟩ (.int .i64 s.b)).setCell ⟨g, 2, none⟩ (.int .i64 s.r)).setCell ⟨g, 3, none⟩ (.int .i64 s.h)).setCell ⟨g, 0, none⟩ (.int .i64 s.l)).setCell ⟨g, 1, none⟩ (.int .i64 s.b)).setCell ⟨g, 2, none⟩ (.int .i64 s.r)).setCell ⟨g, 3, none⟩ (.int .i64 s.h)).drew) tb := Tape.drew' (TS.out 0 1 2 3 0 1 2 3 (.int .i64 s.l) (.int .i64 s.b) (.int .i64 s.r) (.int .i64 s.h) (.int .i64 s.l) (.int .i64 s.b) (.int .i64 s.r) (.int .i64 s.h))
          have G9' := GS.out 0 1 2 3 0 1 2 3 (.int .i64 s.l) (.int .i64 s.b) (.int .i64 s.r) (.int .i64 s.h) (.int .i64 s.l) (.int .i64 s.b) (.int .i64 s.r) (.int .i64 s.h)
          have G9 : w.grownBy (((((((((w7.setCell ⟨g, 0, none⟩ (.int .i64 s.l)).setCell ⟨g, 1, none⟩ (.int .i64 s.b)).setCell ⟨g, 2, none⟩ (.int .i64 s.r)).setCell ⟨g, 3, none⟩ (.int .i64 s.h)).setCell ⟨g, 0, none⟩ (.int .i64 s.l)).setCell ⟨g, 1, none⟩ (.int .i64 s.b)).setCell ⟨g, 2, none⟩ (.int .i64 s.r)).setCell ⟨g, 3, none⟩ (.int .i64 s.h)).drew) (some tb) := gr_drew' G9'
          have O9 : OwnAt (((((((((w7.setCell ⟨g, 0, none⟩ (.int .i64 s.l)).setCell ⟨g, 1, none⟩ (.int .i64 s.b)).setCell ⟨g, 2, none⟩ (.int .i64 s.r)).setCell ⟨g, 3, none⟩ (.int .i64 s.h)).setCell ⟨g, 0, none⟩ (.int .i64 s.l)).setCell ⟨g, 1, none⟩ (.int .i64 s.b)).setCell ⟨g, 2, none⟩ (.int .i64 s.r)).setCell ⟨g, 3, none⟩ (.int .i64 s.h)).drew) (w.heap.size + 1) 44 4 encR (.slice (some ⟨g, 0, none⟩) a.length c5) ((a.set 0 s).set 0 s) := HSW.out
          clear G9' XS TS GS HSW
          generalize (((((((((w7.setCell ⟨g, 0, none⟩ (.int .i64 s.l)).setCell ⟨g, 1, none⟩ (.int .i64 s.b)).setCell ⟨g, 2, none⟩ (.int .i64 s.r)).setCell ⟨g, 3, none⟩ (.int .i64 s.h)).setCell ⟨g, 0, none⟩ (.int .i64 s.l)).setCell ⟨g, 1, none⟩ (.int .i64 s.b)).setCell ⟨g, 2, none⟩ (.int .i64 s.r)).setCell ⟨g, 3, none⟩ (.int .i64 s.h)).drew) = w9 at *
          have el : ((a.set 0 s).set 0 s).length = a.length := by simp
          have hR := O9.rects
          have hn := ownsRow_ge O9
          have x9 := X9.cell (i := 0) rfl
          have f9 := X9.free 0
          have RR := RET.out w9 ((a.set 0 s).set 0 s) (some ⟨g, 0, none⟩) c5 X9 (by rw [el]; exact hR) (fun k hk => hn k (by rw [el] at hk; exact hk)) (by rw [el]; have := LA.out; omega) G9 T9
          rw [el] at RR
          have HRR := Lib.hid RR
          have HX9 := Lib.hid X9
          clear RR hR hn el X9 T9 G9 O9
          go_wp2
          exact bodyPost_ret (ret_reg rfl rfl (HX9.out.set 0 _)) rfl ⟨_, ((a.set 0 s).set 0 s), rfl, HRR.out⟩
        · have hkp : 0 < k := by omega
          go_wp2
          refine wp_region_noPanic ?_
          go_big_region
          refine NoPanic.normal ?_
          have X9 : BoxAt (((((((((w7.setCell ⟨g, 0, none⟩ (.int .i64 r.l)).setCell ⟨g, 1, none⟩ (.int .i64 r.b)).setCell ⟨g, 2, none⟩ (.int .i64 r.r)).setCell ⟨g, 3, none⟩ (.int .i64 r.h)).setCell ⟨g, k * 4, none⟩ (.int .i64 s.l)).setCell ⟨g, k * 4 + 1, none⟩ (.int .i64 s.b)).setCell ⟨g, k * 4 + 2, none⟩ (.int .i64 s.r)).setCell ⟨g, k * 4 + 3, none⟩ (.int .i64 s.h)).drew) w.heap.size #[.slice none 0 0] 24 := BoxAt.drew' (XS.out 0 1 2 3 (k * 4) (k * 4 + 1) (k * 4 + 2) (k * 4 + 3) (.int .i64 r.l) (.int .i64 r.b) (.int .i64 r.r) (.int .i64 r.h) (.int .i64 s.l) (.int .i64 s.b) (.int .i64 s.r) (.int .i64 s.h))
          have T9 : Tape (((((((((w7.setCell ⟨g, 0, none⟩ (.int .i64 r.l)).setCell ⟨g, 1, none⟩ (.int .i64 r.b)).setCell ⟨g, 2, none⟩ (.int .i64 r.r)).setCell ⟨g, 3, none⟩ (.int .i64 r.h)).setCell ⟨g, k * 4, none⟩ (.int .i64 s.l)).setCell ⟨g, k * 4 + 1, none⟩ (.int .i64 s.b)).setCell ⟨g, k * 4 + 2, none⟩ (.int .i64 s.r)).setCell ⟨g, k * 4 + 3, none⟩ (.int .i64 s.h)).drew) tb := Tape.drew' (TS.out 0 1 2 3 (k * 4) (k * 4 + 1) (k * 4 + 2) (k * 4 + 3) (.int .i64 r.l) (.int .i64 r.b) (.int .i64 r.r) (.int .i64 r.h) (.int .i64 s.l) (.int .i64 s.b) (.int .i64 s.r) (.int .i64 s.h))
          have G9' := GS.out 0 1 2 3 (k * 4) (k * 4 + 1) (k * 4 + 2) (k * 4 + 3) (.int .i64 r.l) (.int .i64 r.b) (.int .i64 r.r) (.int .i64 r.h) (.int .i64 s.l) (.int .i64 s.b) (.int .i64 s.r) (.int .i64 s.h)
          have G9 : w.grownBy (((((((((w7.setCell ⟨g, 0, none⟩ (.int .i64 r.l)).setCell ⟨g, 1, none⟩ (.int .i64 r.b)).setCell ⟨g, 2, none⟩ (.int .i64 r.r)).setCell ⟨g, 3, none⟩ (.int .i64 r.h)).setCell ⟨g, k * 4, none⟩ (.int .i64 s.l)).setCell ⟨g, k * 4 + 1, none⟩ (.int .i64 s.b)).setCell ⟨g, k * 4 + 2, none⟩ (.int .i64 s.r)).setCell ⟨g, k * 4 + 3, none⟩ (.int .i64 s.h)).drew) (some tb) := gr_drew' G9'
          have O9 : OwnAt (((((((((w7.setCell ⟨g, 0, none⟩ (.int .i64 r.l)).setCell ⟨g, 1, none⟩ (.int .i64 r.b)).setCell ⟨g, 2, none⟩ (.int .i64 r.r)).setCell ⟨g, 3, none⟩ (.int .i64 r.h)).setCell ⟨g, k * 4, none⟩ (.int .i64 s.l)).setCell ⟨g, k * 4 + 1, none⟩ (.int .i64 s.b)).setCell ⟨g, k * 4 + 2, none⟩ (.int .i64 s.r)).setCell ⟨g, k * 4 + 3, none⟩ (.int .i64 s.h)).drew) (w.heap.size + 1) 44 4 encR (.slice (some ⟨g, 0, none⟩) a.length c5) ((a.set 0 r).set k s) := HSW.out
          clear G9' XS TS GS HSW
          generalize (((((((((w7.setCell ⟨g, 0, none⟩ (.int .i64 r.l)).setCell ⟨g, 1, none⟩ (.int .i64 r.b)).setCell ⟨g, 2, none⟩ (.int .i64 r.r)).setCell ⟨g, 3, none⟩ (.int .i64 r.h)).setCell ⟨g, k * 4, none⟩ (.int .i64 s.l)).setCell ⟨g, k * 4 + 1, none⟩ (.int .i64 s.b)).setCell ⟨g, k * 4 + 2, none⟩ (.int .i64 s.r)).setCell ⟨g, k * 4 + 3, none⟩ (.int .i64 s.h)).drew) = w9 at *
          have el : ((a.set 0 r).set k s).length = a.length := by simp
          have hR := O9.rects
          have hn := ownsRow_ge O9
          have x9 := X9.cell (i := 0) rfl
          have f9 := X9.free 0
          have RR := RET.out w9 ((a.set 0 r).set k s) (some ⟨g, 0, none⟩) c5 X9 (by rw [el]; exact hR) (fun k hk => hn k (by rw [el] at hk; exact hk)) (by rw [el]; have := LA.out; omega) G9 T9
          rw [el] at RR
          have HRR := Lib.hid RR
          have HX9 := Lib.hid X9
          clear RR hR hn el X9 T9 G9 O9
          go_wp2
          exact bodyPost_ret (ret_reg rfl rfl (HX9.out.set 0 _)) rfl ⟨_, ((a.set 0 r).set k s), rfl, HRR.out⟩
      · clear b0 b1 b2 b3 fz0 fz1 fz2 fz3
        go_wp2
        obtain ⟨L', hB, hX⟩ := FIN.out (k * 4 + 3) r.b (by have := LEN.out; omega)
        exact bodyPost_ret (ret_reg rfl rfl (hX.set 0 _)) rfl ⟨_, L', rfl, hB⟩
end Go.Proofs.Ytdpnkbbphfcngaa
