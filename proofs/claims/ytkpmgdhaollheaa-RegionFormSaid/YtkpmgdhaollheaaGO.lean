/- Union, Both, Without, Same. -/
import Derived.Test.YtkpmgdhaollheaaGNC
import Derived.Test.YtkpmgdhaollheaaGHR
namespace Go.Proofs.Ytkpmgdhaollheaa
open Go.RowKit Go.Shelf

set_option maxHeartbeats 1000000 in
set_option maxRecDepth 100000 in
theorem union_any (va vb : Value) (a b : List Rc) (w : World) (ha : RectsAt w va a) (hb : RectsAt w vb b) :
    Calls Try.prog 15 #[.agg #[va], .agg #[vb]] w fun e w' => RetR w.heap.size w' e (CombR (fun a b => a || b) a b) ∧ Below w.heap.size w w' := by
  have HC := Lib.hid (fun (w' : World) (h : Below w.heap.size w w') => combine_any (fun m => decide (m ≠ 0)) (fun a b => a || b) 48 keepUnion (by intro p q; cases p <;> cases q <;> rfl) va vb a b w' (ha.below h) (hb.below h))
  obtain ⟨pa, ca, rfl⟩ := ha.shape
  obtain ⟨pb, cb, rfl⟩ := hb.shape
  clear ha hb
  generalize hna : a.length = na at *
  generalize hnb : b.length = nb at *
  have b3 : Below w.heap.size w (((w.alloc (.cells #[.slice pa na ca] 27)).alloc (.cells #[.slice pb nb cb] 27)).alloc (.cells #[.slice none 0 0] 27)) := (((Below.refl _ _).alloc (Nat.le_refl _) _).alloc (by simp) _).alloc (by simp; omega) _
  have x3 : BoxAt (((w.alloc (.cells #[.slice pa na ca] 27)).alloc (.cells #[.slice pb nb cb] 27)).alloc (.cells #[.slice none 0 0] 27)) (w.heap.size + 1 + 1) #[.slice none 0 0] 27 := by
    have := BoxAt.new ((w.alloc (.cells #[.slice pa na ca] 27)).alloc (.cells #[.slice pb nb cb] 27)) #[.slice none 0 0] 27
    simpa using this
  have B3 := Lib.hid b3
  have X3 := Lib.hid x3
  clear b3 x3
  go_enter Try.func15, Try.ntmps15
  go_wp2_with fail
  refine Calls.mono (HC.out _ B3.out) ?_
  rintro e w4 ⟨⟨v4, l4, e4, rfl, hr4, hv4, hL4⟩, hb4⟩
  obtain ⟨p4, k4, rfl⟩ := hr4.shape
  have B7 := Lib.hid (below_step B3.out hb4)
  have R3 := X3.out.below hb4
  have c4 := R3.cell (i := 0) rfl
  have f4 := R3.free 0
  have R3 := Lib.hid R3
  have HR4 := Lib.hid hr4
  have HV4 := Lib.hid hv4
  have HL4 := Lib.hid hL4
  clear hr4 hv4 hL4 hb4
  go_wp2
  have hz := X3.out.lt
  refine bodyPost_ret (ret_re rfl rfl rfl (R3.out.set 0 (.slice p4 l4.length k4))) rfl ⟨⟨_, l4, e4, rfl, HR4.out.set (fun k hk => ?_) _ _, (fun k hk => ?_), HL4.out⟩, B7.out.setCell (by show w.heap.size ≤ w.heap.size + 1 + 1; omega) _⟩
  · have := HV4.out k hk; omega
  · have := HV4.out k hk; omega

set_option maxHeartbeats 1000000 in
set_option maxRecDepth 100000 in
theorem both_any (va vb : Value) (a b : List Rc) (w : World) (ha : RectsAt w va a) (hb : RectsAt w vb b) :
    Calls Try.prog 16 #[.agg #[va], .agg #[vb]] w fun e w' => RetR w.heap.size w' e (CombR (fun a b => a && b) a b) ∧ Below w.heap.size w w' := by
  have HC := Lib.hid (fun (w' : World) (h : Below w.heap.size w w') => combine_any (fun m => decide (m = 3)) (fun a b => a && b) 49 keepBoth (by intro p q; cases p <;> cases q <;> rfl) va vb a b w' (ha.below h) (hb.below h))
  obtain ⟨pa, ca, rfl⟩ := ha.shape
  obtain ⟨pb, cb, rfl⟩ := hb.shape
  clear ha hb
  generalize hna : a.length = na at *
  generalize hnb : b.length = nb at *
  have b3 : Below w.heap.size w (((w.alloc (.cells #[.slice pa na ca] 27)).alloc (.cells #[.slice pb nb cb] 27)).alloc (.cells #[.slice none 0 0] 27)) := (((Below.refl _ _).alloc (Nat.le_refl _) _).alloc (by simp) _).alloc (by simp; omega) _
  have x3 : BoxAt (((w.alloc (.cells #[.slice pa na ca] 27)).alloc (.cells #[.slice pb nb cb] 27)).alloc (.cells #[.slice none 0 0] 27)) (w.heap.size + 1 + 1) #[.slice none 0 0] 27 := by
    have := BoxAt.new ((w.alloc (.cells #[.slice pa na ca] 27)).alloc (.cells #[.slice pb nb cb] 27)) #[.slice none 0 0] 27
    simpa using this
  have B3 := Lib.hid b3
  have X3 := Lib.hid x3
  clear b3 x3
  go_enter Try.func16, Try.ntmps16
  go_wp2_with fail
  refine Calls.mono (HC.out _ B3.out) ?_
  rintro e w4 ⟨⟨v4, l4, e4, rfl, hr4, hv4, hL4⟩, hb4⟩
  obtain ⟨p4, k4, rfl⟩ := hr4.shape
  have B7 := Lib.hid (below_step B3.out hb4)
  have R3 := X3.out.below hb4
  have c4 := R3.cell (i := 0) rfl
  have f4 := R3.free 0
  have R3 := Lib.hid R3
  have HR4 := Lib.hid hr4
  have HV4 := Lib.hid hv4
  have HL4 := Lib.hid hL4
  clear hr4 hv4 hL4 hb4
  go_wp2
  have hz := X3.out.lt
  refine bodyPost_ret (ret_re rfl rfl rfl (R3.out.set 0 (.slice p4 l4.length k4))) rfl ⟨⟨_, l4, e4, rfl, HR4.out.set (fun k hk => ?_) _ _, (fun k hk => ?_), HL4.out⟩, B7.out.setCell (by show w.heap.size ≤ w.heap.size + 1 + 1; omega) _⟩
  · have := HV4.out k hk; omega
  · have := HV4.out k hk; omega

set_option maxHeartbeats 1000000 in
set_option maxRecDepth 100000 in
theorem without_any (va vb : Value) (a b : List Rc) (w : World) (ha : RectsAt w va a) (hb : RectsAt w vb b) :
    Calls Try.prog 17 #[.agg #[va], .agg #[vb]] w fun e w' => RetR w.heap.size w' e (CombR (fun a b => a && !b) a b) ∧ Below w.heap.size w w' := by
  have HC := Lib.hid (fun (w' : World) (h : Below w.heap.size w w') => combine_any (fun m => decide (m = 1)) (fun a b => a && !b) 50 keepWithout (by intro p q; cases p <;> cases q <;> rfl) va vb a b w' (ha.below h) (hb.below h))
  obtain ⟨pa, ca, rfl⟩ := ha.shape
  obtain ⟨pb, cb, rfl⟩ := hb.shape
  clear ha hb
  generalize hna : a.length = na at *
  generalize hnb : b.length = nb at *
  have b3 : Below w.heap.size w (((w.alloc (.cells #[.slice pa na ca] 27)).alloc (.cells #[.slice pb nb cb] 27)).alloc (.cells #[.slice none 0 0] 27)) := (((Below.refl _ _).alloc (Nat.le_refl _) _).alloc (by simp) _).alloc (by simp; omega) _
  have x3 : BoxAt (((w.alloc (.cells #[.slice pa na ca] 27)).alloc (.cells #[.slice pb nb cb] 27)).alloc (.cells #[.slice none 0 0] 27)) (w.heap.size + 1 + 1) #[.slice none 0 0] 27 := by
    have := BoxAt.new ((w.alloc (.cells #[.slice pa na ca] 27)).alloc (.cells #[.slice pb nb cb] 27)) #[.slice none 0 0] 27
    simpa using this
  have B3 := Lib.hid b3
  have X3 := Lib.hid x3
  clear b3 x3
  go_enter Try.func17, Try.ntmps17
  go_wp2_with fail
  refine Calls.mono (HC.out _ B3.out) ?_
  rintro e w4 ⟨⟨v4, l4, e4, rfl, hr4, hv4, hL4⟩, hb4⟩
  obtain ⟨p4, k4, rfl⟩ := hr4.shape
  have B7 := Lib.hid (below_step B3.out hb4)
  have R3 := X3.out.below hb4
  have c4 := R3.cell (i := 0) rfl
  have f4 := R3.free 0
  have R3 := Lib.hid R3
  have HR4 := Lib.hid hr4
  have HV4 := Lib.hid hv4
  have HL4 := Lib.hid hL4
  clear hr4 hv4 hL4 hb4
  go_wp2
  have hz := X3.out.lt
  refine bodyPost_ret (ret_re rfl rfl rfl (R3.out.set 0 (.slice p4 l4.length k4))) rfl ⟨⟨_, l4, e4, rfl, HR4.out.set (fun k hk => ?_) _ _, (fun k hk => ?_), HL4.out⟩, B7.out.setCell (by show w.heap.size ≤ w.heap.size + 1 + 1; omega) _⟩
  · have := HV4.out k hk; omega
  · have := HV4.out k hk; omega

set_option maxHeartbeats 1000000 in
set_option maxRecDepth 100000 in
theorem same_any (va vb : Value) (a b : List Rc) (w : World) (ha : RectsAt w va a) (hb : RectsAt w vb b) (hla : a.length ≤ 1000000) (hlb : b.length ≤ 1000000) :
    Calls Try.prog 22 #[.agg #[va], .agg #[vb]] w fun e w' => e = .returned (.bool (decide (a = b))) ∧ Below w.heap.size w w' := by
  have HE := Lib.hid (fun (w' : World) (h : Below w.heap.size w w') => equalR_any va vb a b w' (ha.below h).rd (hb.below h).rd hla hlb)
  obtain ⟨pa, ca, rfl⟩ := ha.shape
  obtain ⟨pb, cb, rfl⟩ := hb.shape
  clear ha hb
  generalize hna : a.length = na at *
  generalize hnb : b.length = nb at *
  have B3 := Lib.hid (show Below w.heap.size w ((w.alloc (.cells #[.slice pa na ca] 27)).alloc (.cells #[.slice pb nb cb] 27)) from ((Below.refl _ _).alloc (Nat.le_refl _) _).alloc (by simp) _)
  generalize decide (a = b) = r at *
  go_enter Try.func22, Try.ntmps22
  go_wp2_with (go_at_call 52; refine Calls.mono (HE.out _ B3.out) ?_; rintro e w4 ⟨rfl, q, rfl⟩)
  go_ret
  exact ⟨rfl, below_drewN B3.out q⟩
end Go.Proofs.Ytkpmgdhaollheaa
