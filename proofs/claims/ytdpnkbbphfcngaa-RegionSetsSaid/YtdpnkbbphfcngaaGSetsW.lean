/- The law RegionSets: the walk. -/
import Derived.Test.YtdpnkbbphfcngaaGGood
import Derived.Test.YtdpnkbbphfcngaaGWth
import Derived.Test.YtdpnkbbphfcngaaGY
namespace Go.Proofs.Ytdpnkbbphfcngaa
open Go.RowKit Go.Shelf

/-- Three boxes, one behind the other. -/
structure ThreeAt (w w2 : World) (pa pb pc : Value) : Prop where
  x0 : BoxAt w2 w.heap.size #[pa] 24
  x1 : BoxAt w2 (w.heap.size + 1) #[pb] 24
  x2 : BoxAt w2 (w.heap.size + 2) #[pc] 24
  bw : Below w.heap.size w w2
  sz : w2.heap.size = w.heap.size + 3
theorem three_at (w : World) (pa pb pc : Value) : ThreeAt w (((w.alloc (.cells #[pa] 24)).alloc (.cells #[pb] 24)).alloc (.cells #[pc] 24)) pa pb pc := by
  have h := two_at w pa pb
  refine ⟨h.x0.alloc _, h.x1.alloc _, ?_, h.bw.alloc h.bw.size _, by simp⟩
  have := BoxAt.new ((w.alloc (.cells #[pa] 24)).alloc (.cells #[pb] 24)) #[pc] 24
  rwa [h.sz] at this

theorem ten_zeros : ∀ k : Nat, k < 10 → (#[.int .i64 0, .int .i64 0, .int .i64 0, .int .i64 0, .int .i64 0, .int .i64 0, .int .i64 0, .int .i64 0, .int .i64 0, .int .i64 0] : Array Value)[k]? = some (.int .i64 0)
  | 0, _ | 1, _ | 2, _ | 3, _ | 4, _ | 5, _ | 6, _ | 7, _ | 8, _ | 9, _ => rfl
  | k + 10, h => absurd h (by omega)

set_option maxHeartbeats 8000000 in
set_option maxRecDepth 100000 in
theorem sets_law (v : Value) (n : Nat) (g : Nat → Int) (W : World) (hI : IntsAt .i64 W v n g) (hcap : CapAt v) :
    Calls Try.prog 5 #[v] W fun e w' => e = .returned (.bool true) ∧ Below W.heap.size W w' := by
  have hNew := new_any v n g W hI hcap
  clear hI hcap
  go_enter Try.func5, Try.ntmps5
  go_wp2_with fail
  refine hNew.mono ?_
  rintro e w0 ⟨rfl, hb1, ht1, hz⟩
  have hRg := region_any w0 W.heap.size ht1 8 (by omega) (by omega) 3 (by omega)
  clear hNew ht1
  go_wp2_with fail
  refine hRg.mono ?_
  rintro e w1 ⟨va, a, rfl, hD⟩
  have hRg2 := region_any w1 W.heap.size hD.tape 8 (by omega) (by omega) 3 (by omega)
  clear hRg
  go_wp2_with fail
  refine hRg2.mono ?_
  rintro e w2 ⟨vb, b, rfl, hE⟩
  have hRg3 := region_any w2 W.heap.size hE.tape 8 (by omega) (by omega) 3 (by omega)
  clear hRg2
  go_wp2_with fail
  refine hRg3.mono ?_
  rintro e w3 ⟨vc, c, rfl, hF⟩
  have Ga : Hid (Good 8 a) := drawn_good (n := 8) hD (by decide)
  have Gb : Hid (Good 8 b) := drawn_good (n := 8) hE (by decide)
  have Gc : Hid (Good 8 c) := drawn_good (n := 8) hF (by decide)
  have h13 : w1.grownBy w3 (some W.heap.size) := gr_and hE.gr hF.gr (fun j hj => .inr hj)
  have h03 : w0.grownBy w3 (some W.heap.size) := gr_and hD.gr h13 (fun j hj => .inr hj)
  have RA : Hid (RectsAt w3 va a) := hD.at_.but h13 (fun k hk e => by have := hD.new k hk; have e' : W.heap.size = k := (by simpa using e); omega)
  have RB : Hid (RectsAt w3 vb b) := hE.at_.but hF.gr (fun k hk e => by have := hE.new k hk; have := hD.gr.size; have e' : W.heap.size = k := (by simpa using e); omega)
  have RC : Hid (RectsAt w3 vc c) := hF.at_
  have BW : Hid (Below W.heap.size W w3) := ⟨h03.os.trans hb1.os, h03.tape.trans hb1.tape, h03.output.trans hb1.output, Nat.le_trans hb1.size h03.size, fun k hk => (h03.block k (by have := hb1.size; omega) (by simp; omega)).trans (hb1.block k hk)⟩
  clear hRg3 hD hE hF h13 h03 hb1 hz
  obtain ⟨pa, ca, rfl⟩ := RA.out.shape
  obtain ⟨pb, cb, rfl⟩ := RB.out.shape
  obtain ⟨pc, cc, rfl⟩ := RC.out.shape
  have hT := three_at w3 (.slice none 0 0) (.slice none 0 0) (.slice none 0 0)
  have x0 := hT.x0.free 0
  have x1 := hT.x0.cell (i := 0) rfl
  have x2 := (hT.x1.other (b' := w3.heap.size) (j := 0) (by omega) (.slice pa a.length ca)).free 0
  have x3 := (hT.x1.other (b' := w3.heap.size) (j := 0) (by omega) (.slice pa a.length ca)).cell (i := 0) rfl
  have x4 := ((hT.x2.other (b' := w3.heap.size) (j := 0) (by omega) (.slice pa a.length ca)).other (b' := w3.heap.size + 1) (j := 0) (by omega) (.slice pb b.length cb)).free 0
  have x5 := ((hT.x2.other (b' := w3.heap.size) (j := 0) (by omega) (.slice pa a.length ca)).other (b' := w3.heap.size + 1) (j := 0) (by omega) (.slice pb b.length cb)).cell (i := 0) rfl
  clear hT
  go_wp2_with fail
  clear x0 x1 x2 x3 x4 x5
  have hT := three_at w3 (.slice pa a.length ca) (.slice pb b.length cb) (.slice pc c.length cc)
  have Ra := Lib.hid (RA.out.below hT.bw)
  have Rb := Lib.hid (RB.out.below hT.bw)
  have Rc' := Lib.hid (RC.out.below hT.bw)
  have Xa := Lib.hid hT.x0
  have Xb := Lib.hid hT.x1
  have Xc := Lib.hid hT.x2
  have BW4 := Lib.hid (below_step BW.out hT.bw)
  clear hT RA RB RC BW
  generalize ((w3.alloc (.cells #[.slice pa a.length ca] 24)).alloc (.cells #[.slice pb b.length cb] 24)).alloc (.cells #[.slice pc c.length cc] 24) = w4 at *
  refine (union_any _ _ _ _ _ Ra.out Rb.out).mono ?_
  rintro e w5 ⟨⟨vab, ab, eab, rfl, hr, hv, hq⟩, hb⟩
  obtain ⟨rfl, gab, iab⟩ := comb_good rfl (by decide) Ga.out Gb.out hq
  have Gab := Lib.hid gab
  have Iab := Lib.hid iab
  obtain ⟨pab, cab, rfl⟩ := hr.shape
  have HB6 := Lib.hid (show Below w4.heap.size w4 (w5.alloc (.cells #[.slice pab ab.length cab] 24)) from hb.alloc hb.size _)
  have Xab := Lib.hid (BoxAt.new w5 #[.slice pab ab.length cab] 24)
  have Rab := Lib.hid (hr.below ((Below.refl _ _).alloc (Nat.le_refl _) (.cells #[.slice pab ab.length cab] 24)))
  clear hr hv hq hb gab iab
  have x2 := (BoxAt.new w5 #[.slice none 0 0] 24).free 0
  have z0 := (Xb.out.below HB6.out).cell (i := 0) rfl
  have z1 := (Xa.out.below HB6.out).cell (i := 0) rfl
  go_wp2_with fail
  clear x2 z0 z1
  generalize w5.alloc (.cells #[.slice pab ab.length cab] 24) = w6 at *
  refine (union_any _ _ _ _ _ (Rb.out.below HB6.out) (Ra.out.below HB6.out)).mono ?_
  rintro e w7 ⟨⟨vba, ba, eba, rfl, hr, hv, hq⟩, hb⟩
  obtain ⟨rfl, gba, iba⟩ := comb_good rfl (by decide) Gb.out Ga.out hq
  have Gba := Lib.hid gba
  have Iba := Lib.hid iba
  obtain ⟨pba, cba, rfl⟩ := hr.shape
  have HB8 := Lib.hid (show Below w6.heap.size w6 (w7.alloc (.cells #[.slice pba ba.length cba] 24)) from hb.alloc hb.size _)
  have Xba := Lib.hid (BoxAt.new w7 #[.slice pba ba.length cba] 24)
  have Rba := Lib.hid (hr.below ((Below.refl _ _).alloc (Nat.le_refl _) (.cells #[.slice pba ba.length cba] 24)))
  clear hr hv hq hb gba iba
  have x2 := (BoxAt.new w7 #[.slice none 0 0] 24).free 0
  have z0 := ((Xb.out.below HB6.out).below HB8.out).cell (i := 0) rfl
  have z1 := ((Xc.out.below HB6.out).below HB8.out).cell (i := 0) rfl
  go_wp2_with fail
  clear x2 z0 z1
  generalize w7.alloc (.cells #[.slice pba ba.length cba] 24) = w8 at *
  refine (union_any _ _ _ _ _ ((Rb.out.below HB6.out).below HB8.out) ((Rc'.out.below HB6.out).below HB8.out)).mono ?_
  rintro e w9 ⟨⟨vbc, bc, ebc, rfl, hr, hv, hq⟩, hb⟩
  obtain ⟨rfl, gbc, ibc⟩ := comb_good rfl (by decide) Gb.out Gc.out hq
  have Gbc := Lib.hid gbc
  have Ibc := Lib.hid ibc
  obtain ⟨pbc, cbc, rfl⟩ := hr.shape
  have HB10 := Lib.hid (show Below w8.heap.size w8 (w9.alloc (.cells #[.slice pbc bc.length cbc] 24)) from hb.alloc hb.size _)
  have Xbc := Lib.hid (BoxAt.new w9 #[.slice pbc bc.length cbc] 24)
  have Rbc := Lib.hid (hr.below ((Below.refl _ _).alloc (Nat.le_refl _) (.cells #[.slice pbc bc.length cbc] 24)))
  clear hr hv hq hb gbc ibc
  have x2 := (BoxAt.new w9 #[.slice none 0 0] 24).free 0
  have z0 := ((Xab.out.below HB8.out).below HB10.out).cell (i := 0) rfl
  have z1 := (((Xc.out.below HB6.out).below HB8.out).below HB10.out).cell (i := 0) rfl
  go_wp2_with fail
  clear x2 z0 z1
  generalize w9.alloc (.cells #[.slice pbc bc.length cbc] 24) = w10 at *
  refine (union_any _ _ _ _ _ ((Rab.out.below HB8.out).below HB10.out) (((Rc'.out.below HB6.out).below HB8.out).below HB10.out)).mono ?_
  rintro e w11 ⟨⟨vleft, left, eleft, rfl, hr, hv, hq⟩, hb⟩
  obtain ⟨rfl, gleft, ileft⟩ := comb_good rfl (by decide) Gab.out Gc.out hq
  have Gleft := Lib.hid gleft
  have Ileft := Lib.hid ileft
  obtain ⟨pleft, cleft, rfl⟩ := hr.shape
  have HB12 := Lib.hid (show Below w10.heap.size w10 (w11.alloc (.cells #[.slice pleft left.length cleft] 24)) from hb.alloc hb.size _)
  have Xleft := Lib.hid (BoxAt.new w11 #[.slice pleft left.length cleft] 24)
  have Rleft := Lib.hid (hr.below ((Below.refl _ _).alloc (Nat.le_refl _) (.cells #[.slice pleft left.length cleft] 24)))
  clear hr hv hq hb gleft ileft
  have x2 := (BoxAt.new w11 #[.slice none 0 0] 24).free 0
  have z0 := ((((Xa.out.below HB6.out).below HB8.out).below HB10.out).below HB12.out).cell (i := 0) rfl
  have z1 := (Xbc.out.below HB12.out).cell (i := 0) rfl
  go_wp2_with fail
  clear x2 z0 z1
  generalize w11.alloc (.cells #[.slice pleft left.length cleft] 24) = w12 at *
  refine (union_any _ _ _ _ _ ((((Ra.out.below HB6.out).below HB8.out).below HB10.out).below HB12.out) (Rbc.out.below HB12.out)).mono ?_
  rintro e w13 ⟨⟨vright, right, eright, rfl, hr, hv, hq⟩, hb⟩
  obtain ⟨rfl, gright, iright⟩ := comb_good rfl (by decide) Ga.out Gbc.out hq
  have Gright := Lib.hid gright
  have Iright := Lib.hid iright
  obtain ⟨pright, cright, rfl⟩ := hr.shape
  have HB14 := Lib.hid (show Below w12.heap.size w12 (w13.alloc (.cells #[.slice pright right.length cright] 24)) from hb.alloc hb.size _)
  have Xright := Lib.hid (BoxAt.new w13 #[.slice pright right.length cright] 24)
  have Rright := Lib.hid (hr.below ((Below.refl _ _).alloc (Nat.le_refl _) (.cells #[.slice pright right.length cright] 24)))
  clear hr hv hq hb gright iright
  have x2 := (BoxAt.new w13 #[.slice none 0 0] 24).free 0
  have z0 := (((((Xa.out.below HB6.out).below HB8.out).below HB10.out).below HB12.out).below HB14.out).cell (i := 0) rfl
  have z1 := (((((Xb.out.below HB6.out).below HB8.out).below HB10.out).below HB12.out).below HB14.out).cell (i := 0) rfl
  go_wp2_with fail
  clear x2 z0 z1
  generalize w13.alloc (.cells #[.slice pright right.length cright] 24) = w14 at *
  refine (both_any _ _ _ _ _ (((((Ra.out.below HB6.out).below HB8.out).below HB10.out).below HB12.out).below HB14.out) (((((Rb.out.below HB6.out).below HB8.out).below HB10.out).below HB12.out).below HB14.out)).mono ?_
  rintro e w15 ⟨⟨vboth, both, eboth, rfl, hr, hv, hq⟩, hb⟩
  obtain ⟨rfl, gboth, iboth⟩ := comb_good rfl (by decide) Ga.out Gb.out hq
  have Gboth := Lib.hid gboth
  have Iboth := Lib.hid iboth
  obtain ⟨pboth, cboth, rfl⟩ := hr.shape
  have HB16 := Lib.hid (show Below w14.heap.size w14 (w15.alloc (.cells #[.slice pboth both.length cboth] 24)) from hb.alloc hb.size _)
  have Xboth := Lib.hid (BoxAt.new w15 #[.slice pboth both.length cboth] 24)
  have Rboth := Lib.hid (hr.below ((Below.refl _ _).alloc (Nat.le_refl _) (.cells #[.slice pboth both.length cboth] 24)))
  clear hr hv hq hb gboth iboth
  have x2 := (BoxAt.new w15 #[.slice none 0 0] 24).free 0
  have z0 := ((((((Xa.out.below HB6.out).below HB8.out).below HB10.out).below HB12.out).below HB14.out).below HB16.out).cell (i := 0) rfl
  have z1 := Xboth.out.cell (i := 0) rfl
  go_wp2_with fail
  clear x2 z0 z1
  generalize w15.alloc (.cells #[.slice pboth both.length cboth] 24) = w16 at *
  refine (union_any _ _ _ _ _ ((((((Ra.out.below HB6.out).below HB8.out).below HB10.out).below HB12.out).below HB14.out).below HB16.out) Rboth.out).mono ?_
  rintro e w17 ⟨⟨vabsd, absd, eabsd, rfl, hr, hv, hq⟩, hb⟩
  obtain ⟨rfl, gabsd, iabsd⟩ := comb_good rfl (by decide) Ga.out Gboth.out hq
  have Gabsd := Lib.hid gabsd
  have Iabsd := Lib.hid iabsd
  obtain ⟨pabsd, cabsd, rfl⟩ := hr.shape
  have HB18 := Lib.hid (show Below w16.heap.size w16 (w17.alloc (.cells #[.slice pabsd absd.length cabsd] 24)) from hb.alloc hb.size _)
  have Xabsd := Lib.hid (BoxAt.new w17 #[.slice pabsd absd.length cabsd] 24)
  have Rabsd := Lib.hid (hr.below ((Below.refl _ _).alloc (Nat.le_refl _) (.cells #[.slice pabsd absd.length cabsd] 24)))
  clear hr hv hq hb gabsd iabsd
  have x2 := (BoxAt.new w17 #[.slice none 0 0] 24).free 0
  have z0 := (((((((Xc.out.below HB6.out).below HB8.out).below HB10.out).below HB12.out).below HB14.out).below HB16.out).below HB18.out).cell (i := 0) rfl
  have z1 := ((((((Xab.out.below HB8.out).below HB10.out).below HB12.out).below HB14.out).below HB16.out).below HB18.out).cell (i := 0) rfl
  go_wp2_with fail
  clear x2 z0 z1
  generalize w17.alloc (.cells #[.slice pabsd absd.length cabsd] 24) = w18 at *
  refine (without_any _ _ _ _ _ (((((((Rc'.out.below HB6.out).below HB8.out).below HB10.out).below HB12.out).below HB14.out).below HB16.out).below HB18.out) ((((((Rab.out.below HB8.out).below HB10.out).below HB12.out).below HB14.out).below HB16.out).below HB18.out)).mono ?_
  rintro e w19 ⟨⟨vrest, rest, erest, rfl, hr, hv, hq⟩, hb⟩
  obtain ⟨rfl, grest, irest⟩ := comb_good rfl (by decide) Gc.out Gab.out hq
  have Grest := Lib.hid grest
  have Irest := Lib.hid irest
  obtain ⟨prest, crest, rfl⟩ := hr.shape
  have HB20 := Lib.hid (show Below w18.heap.size w18 (w19.alloc (.cells #[.slice prest rest.length crest] 24)) from hb.alloc hb.size _)
  have Xrest := Lib.hid (BoxAt.new w19 #[.slice prest rest.length crest] 24)
  have Rrest := Lib.hid (hr.below ((Below.refl _ _).alloc (Nat.le_refl _) (.cells #[.slice prest rest.length crest] 24)))
  clear hr hv hq hb grest irest
  have x2 := (BoxAt.new w19 #[.slice none 0 0] 24).free 0
  have z0 := ((((((((Xc.out.below HB6.out).below HB8.out).below HB10.out).below HB12.out).below HB14.out).below HB16.out).below HB18.out).below HB20.out).cell (i := 0) rfl
  have z1 := ((((((((Xa.out.below HB6.out).below HB8.out).below HB10.out).below HB12.out).below HB14.out).below HB16.out).below HB18.out).below HB20.out).cell (i := 0) rfl
  go_wp2_with fail
  clear x2 z0 z1
  generalize w19.alloc (.cells #[.slice prest rest.length crest] 24) = w20 at *
  refine (without_any _ _ _ _ _ ((((((((Rc'.out.below HB6.out).below HB8.out).below HB10.out).below HB12.out).below HB14.out).below HB16.out).below HB18.out).below HB20.out) ((((((((Ra.out.below HB6.out).below HB8.out).below HB10.out).below HB12.out).below HB14.out).below HB16.out).below HB18.out).below HB20.out)).mono ?_
  rintro e w21 ⟨⟨vx, x, ex, rfl, hr, hv, hq⟩, hb⟩
  obtain ⟨rfl, gx, ix⟩ := comb_good rfl (by decide) Gc.out Ga.out hq
  have Gx := Lib.hid gx
  have Ix := Lib.hid ix
  obtain ⟨px, cx, rfl⟩ := hr.shape
  have HB22 := Lib.hid (show Below w20.heap.size w20 (w21.alloc (.cells #[.slice px x.length cx] 24)) from hb.alloc hb.size _)
  have Xx := Lib.hid (BoxAt.new w21 #[.slice px x.length cx] 24)
  have Rx := Lib.hid (hr.below ((Below.refl _ _).alloc (Nat.le_refl _) (.cells #[.slice px x.length cx] 24)))
  clear hr hv hq hb gx ix
  have x2 := (BoxAt.new w21 #[.slice none 0 0] 24).free 0
  have z0 := Xx.out.cell (i := 0) rfl
  have z1 := (((((((((Xb.out.below HB6.out).below HB8.out).below HB10.out).below HB12.out).below HB14.out).below HB16.out).below HB18.out).below HB20.out).below HB22.out).cell (i := 0) rfl
  go_wp2_with fail
  clear x2 z0 z1
  generalize w21.alloc (.cells #[.slice px x.length cx] 24) = w22 at *
  refine (without_any _ _ _ _ _ Rx.out (((((((((Rb.out.below HB6.out).below HB8.out).below HB10.out).below HB12.out).below HB14.out).below HB16.out).below HB18.out).below HB20.out).below HB22.out)).mono ?_
  rintro e w23 ⟨⟨vy, y, ey, rfl, hr, hv, hq⟩, hb⟩
  obtain ⟨rfl, gy, iy⟩ := comb_good rfl (by decide) Gx.out Gb.out hq
  have Gy := Lib.hid gy
  have Iy := Lib.hid iy
  obtain ⟨py, cy, rfl⟩ := hr.shape
  have HB24 := Lib.hid (show Below w22.heap.size w22 (w23.alloc (.cells #[.slice py y.length cy] 24)) from hb.alloc hb.size _)
  have Xy := Lib.hid (BoxAt.new w23 #[.slice py y.length cy] 24)
  have Ry := Lib.hid (hr.below ((Below.refl _ _).alloc (Nat.le_refl _) (.cells #[.slice py y.length cy] 24)))
  clear hr hv hq hb gy iy
  have x2 := (BoxAt.new w23 #[.slice none 0 0] 24).free 0
  go_wp2_with fail
  clear x2
  have HSK := Lib.hid (show (w23.alloc (.cells #[.slice py y.length cy] 24)).heap.size = w23.heap.size + 1 by simp)
  generalize w23.alloc (.cells #[.slice py y.length cy] 24) = w24 at *
  have hErr := BoxAt.new w24 #[.int .i64 0, .int .i64 0, .int .i64 0, .int .i64 0, .int .i64 0, .int .i64 0, .int .i64 0, .int .i64 0, .int .i64 0, .int .i64 0] 31
  have hBE : Below w24.heap.size w24 (w24.alloc (.cells #[.int .i64 0, .int .i64 0, .int .i64 0, .int .i64 0, .int .i64 0, .int .i64 0, .int .i64 0, .int .i64 0, .int .i64 0, .int .i64 0] 31)) := (Below.refl _ _).alloc (Nat.le_refl _) _
  rw [HSK.out] at hErr
  have HErr := Lib.hid hErr
  have Ya := Lib.hid (((((((((((Xa.out.below HB6.out).below HB8.out).below HB10.out).below HB12.out).below HB14.out).below HB16.out).below HB18.out).below HB20.out).below HB22.out).below HB24.out).below hBE)
  have Yb := Lib.hid (((((((((((Xb.out.below HB6.out).below HB8.out).below HB10.out).below HB12.out).below HB14.out).below HB16.out).below HB18.out).below HB20.out).below HB22.out).below HB24.out).below hBE)
  have Yab := Lib.hid ((((((((((Xab.out.below HB8.out).below HB10.out).below HB12.out).below HB14.out).below HB16.out).below HB18.out).below HB20.out).below HB22.out).below HB24.out).below hBE)
  have Yba := Lib.hid (((((((((Xba.out.below HB10.out).below HB12.out).below HB14.out).below HB16.out).below HB18.out).below HB20.out).below HB22.out).below HB24.out).below hBE)
  have Yleft := Lib.hid (((((((Xleft.out.below HB14.out).below HB16.out).below HB18.out).below HB20.out).below HB22.out).below HB24.out).below hBE)
  have Yright := Lib.hid ((((((Xright.out.below HB16.out).below HB18.out).below HB20.out).below HB22.out).below HB24.out).below hBE)
  have Yboth := Lib.hid (((((Xboth.out.below HB18.out).below HB20.out).below HB22.out).below HB24.out).below hBE)
  have Yabsd := Lib.hid ((((Xabsd.out.below HB20.out).below HB22.out).below HB24.out).below hBE)
  have Yrest := Lib.hid (((Xrest.out.below HB22.out).below HB24.out).below hBE)
  have Yy := Lib.hid (Xy.out.below hBE)
  have Sa := Lib.hid (((((((((((Ra.out.below HB6.out).below HB8.out).below HB10.out).below HB12.out).below HB14.out).below HB16.out).below HB18.out).below HB20.out).below HB22.out).below HB24.out).below hBE)
  have Sb := Lib.hid (((((((((((Rb.out.below HB6.out).below HB8.out).below HB10.out).below HB12.out).below HB14.out).below HB16.out).below HB18.out).below HB20.out).below HB22.out).below HB24.out).below hBE)
  have Sab := Lib.hid ((((((((((Rab.out.below HB8.out).below HB10.out).below HB12.out).below HB14.out).below HB16.out).below HB18.out).below HB20.out).below HB22.out).below HB24.out).below hBE)
  have Sba := Lib.hid (((((((((Rba.out.below HB10.out).below HB12.out).below HB14.out).below HB16.out).below HB18.out).below HB20.out).below HB22.out).below HB24.out).below hBE)
  have Sleft := Lib.hid (((((((Rleft.out.below HB14.out).below HB16.out).below HB18.out).below HB20.out).below HB22.out).below HB24.out).below hBE)
  have Sright := Lib.hid ((((((Rright.out.below HB16.out).below HB18.out).below HB20.out).below HB22.out).below HB24.out).below hBE)
  have Sboth := Lib.hid (((((Rboth.out.below HB18.out).below HB20.out).below HB22.out).below HB24.out).below hBE)
  have Sabsd := Lib.hid ((((Rabsd.out.below HB20.out).below HB22.out).below HB24.out).below hBE)
  have Srest := Lib.hid (((Rrest.out.below HB22.out).below HB24.out).below hBE)
  have Sy := Lib.hid (Ry.out.below hBE)
  have BWK := Lib.hid (below_step (below_step (below_step (below_step (below_step (below_step (below_step (below_step (below_step (below_step (below_step BW4.out HB6.out) HB8.out) HB10.out) HB12.out) HB14.out) HB16.out) HB18.out) HB20.out) HB22.out) HB24.out) hBE)
  have e1 : decide (ab = ba) = true := decide_eq_true (Gab.out.ext Gba.out fun x y => by rw [Iab.out, Iba.out, Bool.or_comm])
  have e2 : decide (left = right) = true := decide_eq_true (Gleft.out.ext Gright.out fun x y => by rw [Ileft.out, Iright.out, Iab.out, Ibc.out, Bool.or_assoc])
  have e3 : decide (absd = a) = true := decide_eq_true (Gabsd.out.ext Ga.out fun x y => by rw [Iabsd.out, Iboth.out]; cases insideB a x y <;> cases insideB b x y <;> rfl)
  have e4 : decide (rest = y) = true := decide_eq_true (Grest.out.ext Gy.out fun u z => by rw [Irest.out, Iy.out, Ix.out, Iab.out]; cases insideB a u z <;> cases insideB b u z <;> cases insideB c u z <;> rfl)
  have E5 := Lib.hid (union_area Ga.out Gb.out Gab.out Gboth.out Iab.out Iboth.out)
  have E1 := Lib.hid e1
  have E2 := Lib.hid e2
  have E3 := Lib.hid e3
  have E4 := Lib.hid e4
  have LN := Lib.hid (fun (l : List Rc) (h : Good 8 l) => (Nat.le_trans h.len (by decide) : l.length ≤ 1000000))
  clear e1 e2 e3 e4 hErr
  clear Iab Iba Ibc Ileft Iright Iboth Iabsd Irest Ix Iy Gc Gbc Gx Xbc Rbc Xx Rx Rc' Xc BW4 HB6 HB8 HB10 HB12 HB14 HB16 HB18 HB20 HB22 HB24 Xa Ra Xb Rb Xab Rab Xba Rba Xleft Rleft Xright Rright Xboth Rboth Xabsd Rabsd Xrest Rrest Xy Ry
  generalize w24.alloc (.cells #[.int .i64 0, .int .i64 0, .int .i64 0, .int .i64 0, .int .i64 0, .int .i64 0, .int .i64 0, .int .i64 0, .int .i64 0, .int .i64 0] 31) = wE at *
  clear hBE
  go_loopw [109] (fun i wr => ∃ k : Nat, k ≤ 10 ∧ i = .int .i64 k ∧ wr = wE) (fun i _ => 10 - (intOf i).toNat)
  case atStart => exact ⟨0, by omega, rfl, rfl⟩
  case round =>
    obtain ⟨k, hk, rfl, rfl⟩ := hrel
    by_cases hk10 : k < 10
    · have hc := HErr.out.cell (i := k) (ten_zeros k hk10)
      have hk' : (k : Int) < 10 := by omega
      go_wp2
      go_roundw
      case rel => exact ⟨k + 1, by omega, by simp, trivial⟩
      case measure => simp [intOf]; omega
    · obtain rfl : k = 10 := by omega
      clear hk hk10
      generalize wr = wE at *
      have KS := Lib.hid (fun (w' : World) (h : Below wE.heap.size wE w') => (⟨(Ya.out.below h).cell (i := 0) rfl, (Yb.out.below h).cell (i := 0) rfl, (Yab.out.below h).cell (i := 0) rfl, (Yba.out.below h).cell (i := 0) rfl, (Yleft.out.below h).cell (i := 0) rfl, (Yright.out.below h).cell (i := 0) rfl, (Yboth.out.below h).cell (i := 0) rfl, (Yabsd.out.below h).cell (i := 0) rfl, (Yrest.out.below h).cell (i := 0) rfl, (Yy.out.below h).cell (i := 0) rfl, h⟩ : w'.cell? ⟨w3.heap.size, 0, none⟩ = some (.slice pa a.length ca) ∧ w'.cell? ⟨(w3.heap.size + 1), 0, none⟩ = some (.slice pb b.length cb) ∧ w'.cell? ⟨w5.heap.size, 0, none⟩ = some (.slice pab ab.length cab) ∧ w'.cell? ⟨w7.heap.size, 0, none⟩ = some (.slice pba ba.length cba) ∧ w'.cell? ⟨w11.heap.size, 0, none⟩ = some (.slice pleft left.length cleft) ∧ w'.cell? ⟨w13.heap.size, 0, none⟩ = some (.slice pright right.length cright) ∧ w'.cell? ⟨w15.heap.size, 0, none⟩ = some (.slice pboth both.length cboth) ∧ w'.cell? ⟨w17.heap.size, 0, none⟩ = some (.slice pabsd absd.length cabsd) ∧ w'.cell? ⟨w19.heap.size, 0, none⟩ = some (.slice prest rest.length crest) ∧ w'.cell? ⟨w23.heap.size, 0, none⟩ = some (.slice py y.length cy) ∧ Below wE.heap.size wE w'))
      have K1 := Lib.hid (fun (w' : World) (h : Below wE.heap.size wE w') => (show Calls Try.prog 27 #[.agg #[.slice pab ab.length cab], .agg #[.slice pba ba.length cba]] w' fun e w'' => e = .returned (.bool true) ∧ Below w'.heap.size w' w'' from by rw [← E1.out]; exact same_any _ _ _ _ w' (Sab.out.below h) (Sba.out.below h) (LN.out _ Gab.out) (LN.out _ Gba.out)))
      have K2 := Lib.hid (fun (w' : World) (h : Below wE.heap.size wE w') => (show Calls Try.prog 27 #[.agg #[.slice pleft left.length cleft], .agg #[.slice pright right.length cright]] w' fun e w'' => e = .returned (.bool true) ∧ Below w'.heap.size w' w'' from by rw [← E2.out]; exact same_any _ _ _ _ w' (Sleft.out.below h) (Sright.out.below h) (LN.out _ Gleft.out) (LN.out _ Gright.out)))
      have K3 := Lib.hid (fun (w' : World) (h : Below wE.heap.size wE w') => (show Calls Try.prog 27 #[.agg #[.slice pabsd absd.length cabsd], .agg #[.slice pa a.length ca]] w' fun e w'' => e = .returned (.bool true) ∧ Below w'.heap.size w' w'' from by rw [← E3.out]; exact same_any _ _ _ _ w' (Sabsd.out.below h) (Sa.out.below h) (LN.out _ Gabsd.out) (LN.out _ Ga.out)))
      have K4 := Lib.hid (fun (w' : World) (h : Below wE.heap.size wE w') => (show Calls Try.prog 27 #[.agg #[.slice prest rest.length crest], .agg #[.slice py y.length cy]] w' fun e w'' => e = .returned (.bool true) ∧ Below w'.heap.size w' w'' from by rw [← E4.out]; exact same_any _ _ _ _ w' (Srest.out.below h) (Sy.out.below h) (LN.out _ Grest.out) (LN.out _ Gy.out)))
      have K5 := Lib.hid (fun (w' : World) (h : Below wE.heap.size wE w') => area_any _ _ w' (Sa.out.below h))
      have K6 := Lib.hid (fun (w' : World) (h : Below wE.heap.size wE w') => area_any _ _ w' (Sb.out.below h))
      have K7 := Lib.hid (fun (w' : World) (h : Below wE.heap.size wE w') => area_any _ _ w' (Sab.out.below h))
      have K8 := Lib.hid (fun (w' : World) (h : Below wE.heap.size wE w') => area_any _ _ w' (Sboth.out.below h))
      have e5 := E5.out
      clear Ya Sa Yb Sb Yab Sab Yba Sba Yleft Sleft Yright Sright Yboth Sboth Yabsd Sabsd Yrest Srest Yy Sy E1 E2 E3 E4 E5 LN HErr
      generalize hna : a.length = na at *
      generalize hnb : b.length = nb at *
      generalize hnab : ab.length = nab at *
      generalize hnba : ba.length = nba at *
      generalize hnleft : left.length = nleft at *
      generalize hnright : right.length = nright at *
      generalize hnboth : both.length = nboth at *
      generalize hnabsd : absd.length = nabsd at *
      generalize hnrest : rest.length = nrest at *
      generalize hny : y.length = ny at *
      clear hna hnb hnab hnba hnleft hnright hnboth hnabsd hnrest hny
      go_wp2_with fail
      go_region_held3 (fun w' => w'.cell? ⟨w3.heap.size, 0, none⟩ = some (.slice pa na ca) ∧ w'.cell? ⟨(w3.heap.size + 1), 0, none⟩ = some (.slice pb nb cb) ∧ w'.cell? ⟨w5.heap.size, 0, none⟩ = some (.slice pab nab cab) ∧ w'.cell? ⟨w7.heap.size, 0, none⟩ = some (.slice pba nba cba) ∧ w'.cell? ⟨w11.heap.size, 0, none⟩ = some (.slice pleft nleft cleft) ∧ w'.cell? ⟨w13.heap.size, 0, none⟩ = some (.slice pright nright cright) ∧ w'.cell? ⟨w15.heap.size, 0, none⟩ = some (.slice pboth nboth cboth) ∧ w'.cell? ⟨w17.heap.size, 0, none⟩ = some (.slice pabsd nabsd cabsd) ∧ w'.cell? ⟨w19.heap.size, 0, none⟩ = some (.slice prest nrest crest) ∧ w'.cell? ⟨w23.heap.size, 0, none⟩ = some (.slice py ny cy) ∧ Below wE.heap.size wE w') (exact KS.out _ (by first | assumption | exact Below.drew (by assumption) | exact Below.drew (Below.refl _ _))) (first
        | (go_at_call 27; (with_reducible refine (K1.out _ (by first | assumption | exact Below.drew (Below.refl _ _))).mono ?_); rintro e w' ⟨rfl, hb⟩; have kb : Below wE.heap.size wE w' := below_step (by first | assumption | exact Below.drew (Below.refl _ _)) hb; clear hb)
        | (go_at_call 27; (with_reducible refine (K2.out _ (by first | assumption | exact Below.drew (Below.refl _ _))).mono ?_); rintro e w' ⟨rfl, hb⟩; have kb : Below wE.heap.size wE w' := below_step (by first | assumption | exact Below.drew (Below.refl _ _)) hb; clear hb)
        | (go_at_call 27; (with_reducible refine (K3.out _ (by first | assumption | exact Below.drew (Below.refl _ _))).mono ?_); rintro e w' ⟨rfl, hb⟩; have kb : Below wE.heap.size wE w' := below_step (by first | assumption | exact Below.drew (Below.refl _ _)) hb; clear hb)
        | (go_at_call 27; (with_reducible refine (K4.out _ (by first | assumption | exact Below.drew (Below.refl _ _))).mono ?_); rintro e w' ⟨rfl, hb⟩; have kb : Below wE.heap.size wE w' := below_step (by first | assumption | exact Below.drew (Below.refl _ _)) hb; clear hb)
        | (go_at_call 26; (with_reducible refine (K5.out _ (by first | assumption | exact Below.drew (Below.refl _ _))).mono ?_); rintro e w' ⟨z, rfl, hz, hb⟩; obtain rfl := hz.1 Ga.out.valid; clear hz; have kb : Below wE.heap.size wE w' := below_step (by first | assumption | exact Below.drew (Below.refl _ _)) hb; clear hb)
        | (go_at_call 26; (with_reducible refine (K6.out _ (by first | assumption | exact Below.drew (Below.refl _ _))).mono ?_); rintro e w' ⟨z, rfl, hz, hb⟩; obtain rfl := hz.1 Gb.out.valid; clear hz; have kb : Below wE.heap.size wE w' := below_step (by first | assumption | exact Below.drew (Below.refl _ _)) hb; clear hb)
        | (go_at_call 26; (with_reducible refine (K7.out _ (by first | assumption | exact Below.drew (Below.refl _ _))).mono ?_); rintro e w' ⟨z, rfl, hz, hb⟩; obtain rfl := hz.1 Gab.out.valid; clear hz; have kb : Below wE.heap.size wE w' := below_step (by first | assumption | exact Below.drew (Below.refl _ _)) hb; clear hb)
        | (go_at_call 26; (with_reducible refine (K8.out _ (by first | assumption | exact Below.drew (Below.refl _ _))).mono ?_); rintro e w' ⟨z, rfl, hz, hb⟩; obtain rfl := hz.1 Gboth.out.valid; clear hz; have kb : Below wE.heap.size wE w' := below_step (by first | assumption | exact Below.drew (Below.refl _ _)) hb; clear hb)
        | (go_at_call 12; (with_reducible refine ((fun (_ : Below wE.heap.size wE _) => awake_any _) (by first | assumption | exact Below.drew (Below.refl _ _))).mono ?_); rintro e w' ⟨rfl, hb⟩; have kb : Below wE.heap.size wE w' := below_step (by first | assumption | exact Below.drew (Below.refl _ _)) hb; clear hb))
      go_wp2
      go_ret
      exact ⟨rfl, below_step BWK.out (by assumption)⟩
end Go.Proofs.Ytdpnkbbphfcngaa
